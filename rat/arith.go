package rat

import "quincunx/zint"

// Neg is as much below 0 as a is above, or the other way round.
func Neg(a Rat) Rat {
	return normal(zint.Neg(a.N), a.D)
}

// Add is the sum.
func Add(a, b Rat) Rat {
	a, b = counted(a), counted(b)
	n := zint.Add(zint.Mul(a.N, b.D), zint.Mul(b.N, a.D))
	return normal(n, zint.Mul(a.D, b.D))
}

// Sub is the difference.
func Sub(a, b Rat) Rat {
	return Add(a, Rat{N: zint.Neg(b.N), D: b.D})
}

// Mul is the product: a D of 0 makes it 0 too.
func Mul(a, b Rat) Rat {
	return normal(zint.Mul(a.N, b.N), zint.Mul(a.D, b.D))
}

// Quo is a by b; false, if b is 0. An a whose D is 0 makes the quotient's D 0 too.
func Quo(a, b Rat) (Rat, bool) {
	return normal(zint.Mul(a.N, b.D), zint.Mul(a.D, b.N)), Sign(b) != 0
}

// Pow is a to the n, of an n below 0 the inverse's power; false, if a is 0 then, or
// the power of N or of D, when a is normal, might be too great. The inverse of 0 has a
// D of 0, which Make refuses. The least int is its own counterpart, so that it stays
// below 0, and layer 5 refuses it, as it would the number above 0 that is as far.
func Pow(a Rat, n int) (Rat, bool) {
	a = normal(a.N, a.D)
	if n < 0 {
		a, n = Rat{N: a.D, D: a.N}, -n
	}
	above, aboveOk := zint.Pow(a.N, n)
	below, belowOk := zint.Pow(a.D, n)
	if !aboveOk || !belowOk {
		return Of(zint.Int{}), false
	}
	return Make(above, below)
}
