package qmat

import (
	"quincunx/div"
	"quincunx/nat"
	"quincunx/rat"
	"quincunx/zint"
)

// part is a list of fractions as whole numbers without a common divisor, and what they
// are to be multiplied by, which is above 0. What is reckoned with the whole numbers need
// not be made normal at each step.
type part struct {
	numbers []zint.Int
	content rat.Rat
}

// partOf has in content the greatest divisor of all N over the least multiple of all D:
// no prime divides both, since it would divide one fraction's. Where all are 0, it is 1.
func partOf(list []rat.Rat) part {
	var above nat.Nat
	below := nat.Of(1)
	own := make([]rat.Rat, len(list))
	for i, x := range list {
		own[i] = fraction(x.N, x.D)
		above, below = div.Gcd(above, own[i].N.A), div.Lcm(below, own[i].D.A)
	}
	if nat.Bits(above) == 0 {
		above = nat.Of(1)
	}
	out := part{numbers: make([]zint.Int, len(list)), content: rat.Rat{N: zint.From(above, false), D: zint.From(below, false)}}
	for i, x := range own {
		least, _ := zint.Exact(x.N, out.content.N)
		times, _ := zint.Exact(out.content.D, x.D)
		out.numbers[i] = zint.Mul(least, times)
	}
	return out
}

// times sums up the products of both lists' fractions.
func (p part) times(q part) rat.Rat {
	sum := zint.Int{}
	for i, x := range p.numbers {
		if y := q.numbers[i]; zint.Sign(x) != 0 && zint.Sign(y) != 0 {
			sum = zint.Add(sum, zint.Mul(x, y))
		}
	}
	above, below := zint.Mul(p.content.N, q.content.N), zint.Mul(p.content.D, q.content.D)
	return fraction(zint.Mul(sum, above), below)
}
