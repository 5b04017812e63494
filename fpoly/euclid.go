package fpoly

import "quincunx/gfp"

// euclid stands between two steps of Euclid's way: with two rests, one after the
// other, and the quotient of the step ahead.
type euclid struct {
	field                gfp.Field
	rest, next, quotient Poly
}

// begin stands ahead of the first step.
func begin(f gfp.Field, a, b Poly) euclid {
	return euclid{field: f, rest: Norm(f, a), next: Norm(f, b)}
}

// goOn takes a step; false at the end, where rest divides all ahead of it.
func (e *euclid) goOn() bool {
	if len(e.next) == 0 {
		return false
	}
	quotient, left := divide(e.field, e.rest, e.next)
	e.rest, e.next, e.quotient = e.next, left, quotient
	return true
}

// Gcd is the greatest common divisor, monic; 0, if both are 0.
func Gcd(f gfp.Field, a, b Poly) Poly {
	steps := begin(f, a, b)
	for steps.goOn() {
	}
	return Monic(f, steps.rest)
}

// Xgcd is the Gcd g, and s and t with s a + t b = g. Of each rest only its part of a
// is reckoned on the way: at the end s and g tell t.
func Xgcd(f gfp.Field, a, b Poly) (Poly, Poly, Poly) {
	steps := begin(f, a, b)
	part, next := Poly{1}, Poly{}
	for steps.goOn() {
		part, next = next, Sub(f, part, multiply(f, steps.quotient, next))
	}
	inverse := inverseOfTop(f, steps.rest)
	g, s := Scale(f, steps.rest, inverse), Scale(f, part, inverse)
	t, _, _ := DivMod(f, Sub(f, g, Mul(f, s, a)), b)
	return g, s, t
}

// Lcm is the least common multiple, monic; 0, if one is 0: where both are, there is
// no quotient, which makes it 0 too.
func Lcm(f gfp.Field, a, b Poly) Poly {
	part, _, _ := DivMod(f, a, Gcd(f, a, b))
	return Monic(f, Mul(f, part, b))
}
