package div

import (
	"math/bits"

	"quincunx/nat"
)

// jump is some steps of Euclid's way at once (Lehmer's way): a becomes p a - q b,
// and b becomes s b - r a. As p s - q r is 1, their common divisors stay.
type jump struct {
	p, q, r, s uint64
}

// jumpOf is the steps that x and y, the leading words of a and b, are sure of. A
// word leaves out less than 1 of its number, so that p a - q b is above
// p x - q y - q: a step is taken only where that isn't below 0, and then serves,
// be it just Euclid's own or not. Nothing runs over: x is, at first, s times what
// is left of it and q times what is left of y, and y likewise with r and p.
func jumpOf(x, y uint64) jump {
	j := jump{p: 1, s: 1}
	isTurned := false
	for y != 0 && x%y >= j.q+x/y*j.s {
		times := x / y
		x, y = y, x%y
		j = jump{j.s, j.r, j.q + times*j.s, j.p + times*j.r}
		isTurned = !isTurned
	}
	if isTurned {
		return jump{j.s, j.r, j.q, j.p}
	}
	return j
}

// isNone tells whether no step was sure.
func (j jump) isNone() bool {
	return j.q == 0
}

// take goes the steps with a and b, that have as many words. The words that the
// products have behind them needn't be reckoned: they cancel, as neither
// difference is below 0, or above a.
func (j jump) take(a, b nat.Nat) {
	first, second := difference{x: j.p, y: j.q}, difference{x: j.s, y: j.r}
	for i, v := range a {
		w := b[i]
		a[i], b[i] = first.next(v, w), second.next(w, v)
	}
}

// difference is x times a number less y times another one, word by word, with
// what runs over.
type difference struct {
	x, y       uint64
	more, less uint64
	borrow     uint64
}

func (d *difference) next(v, w uint64) uint64 {
	var more, less, word uint64
	more, d.more = mulAdd(v, d.x, d.more)
	less, d.less = mulAdd(w, d.y, d.less)
	word, d.borrow = bits.Sub64(more, less, d.borrow)
	return word
}

// mulAdd is v times x, and y: the lesser word, and the greater one.
func mulAdd(v, x, y uint64) (uint64, uint64) {
	high, low := bits.Mul64(v, x)
	low, over := bits.Add64(low, y, 0)
	return low, high + over
}
