package zint

import (
	"quincunx/div"
	"quincunx/nat"
)

// divide is the one division, which is put right by signs: what is left has the
// sign that is asked for. If it would have the other one, b is taken out once
// more. False, if b is 0.
func divide(a, b Int, isBelow bool) (Int, Int, bool) {
	quotient, rest, ok := div.DivMod(a.A, b.A)
	if len(rest) > 0 && a.Neg != isBelow {
		quotient = nat.Add(quotient, nat.Of(1))
		rest, _ = nat.Sub(b.A, rest)
	}
	return signed(quotient, a.Neg != b.Neg), signed(rest, isBelow), ok
}

// Quo is the quotient, rounded towards 0, and what is left, with a's sign; false,
// if b is 0.
func Quo(a, b Int) (Int, Int, bool) {
	return divide(a, b, a.Neg)
}

// Floor is the quotient, rounded down, and what is left, with b's sign; false, if
// b is 0.
func Floor(a, b Int) (Int, Int, bool) {
	return divide(a, b, b.Neg)
}

// Euclid is the quotient, and a rest from 0 on, less than b without its sign;
// false, if b is 0.
func Euclid(a, b Int) (Int, Int, bool) {
	return divide(a, b, false)
}

// Round is the whole number next to a by b, the greater one of two that are as
// near; false, if b is 0.
func Round(a, b Int) (Int, bool) {
	below, rest, ok := Floor(a, b)
	if ok && nat.Cmp(nat.MulAdd(rest.A, 2, 0), b.A) >= 0 {
		return Add(below, Of(1)), true
	}
	return below, ok
}

// Exact is the quotient; false, if b is 0, or doesn't divide a.
func Exact(a, b Int) (Int, bool) {
	quotient, ok := div.Exact(a.A, b.A)
	return signed(quotient, a.Neg != b.Neg), ok
}
