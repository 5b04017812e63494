package fpoly

import (
	"slices"

	"quincunx/gfp"
)

// Add is the sum.
func Add(f gfp.Field, a, b Poly) Poly {
	return addMultiple(f, a, b, 1)
}

// Sub is the difference.
func Sub(f gfp.Field, a, b Poly) Poly {
	return addMultiple(f, a, b, f.Neg(1))
}

// Scale is c times a.
func Scale(f gfp.Field, a Poly, c uint64) Poly {
	return addMultiple(f, nil, a, c)
}

// addMultiple is a + c b.
func addMultiple(f gfp.Field, a, b Poly, c uint64) Poly {
	sums := make(Poly, max(len(a), len(b)))
	for i, element := range a {
		sums[i] = f.Norm(element)
	}
	gather(f, sums, Norm(f, b), f.Norm(c))
	return Norm(f, sums)
}

// Mul is the product.
func Mul(f gfp.Field, a, b Poly) Poly {
	return multiply(f, Norm(f, a), Norm(f, b))
}

// multiply is the product of normal polynomials, which is quicker if a is the shorter
// one.
func multiply(f gfp.Field, a, b Poly) Poly {
	if len(a) == 0 || len(b) == 0 {
		return nil
	}
	sums := make(Poly, len(a)+len(b)-1)
	for i, element := range a {
		gather(f, sums[i:], b, element)
	}
	return Norm(f, sums)
}

// DivMod is a's quotient by b and the rest; false, if b is 0.
func DivMod(f gfp.Field, a, b Poly) (Poly, Poly, bool) {
	b = Norm(f, b)
	if len(b) == 0 {
		return nil, nil, false
	}
	quotient, rest := divide(f, Norm(f, a), b)
	return quotient, rest, true
}

// divide is quotient and rest of normal polynomials, of which b isn't 0.
func divide(f gfp.Field, a, b Poly) (Poly, Poly) {
	sums, degree := slices.Clone(a), len(b)-1
	quotient := make(Poly, max(0, len(a)-degree))
	inverse := inverseOfTop(f, b)
	for i := len(quotient) - 1; i >= 0; i-- {
		quotient[i] = f.Mul(sums[i+degree], inverse)
		gather(f, sums[i:], b, f.Neg(quotient[i]))
	}
	return quotient, Norm(f, sums[:min(degree, len(sums))])
}

// gather puts c times a to the sums, place by place; c and a's words are elements.
// What is a sum so far is less than twice the prime's square: this leaves a word room
// for one more product, so that only what comes of all needs a division.
func gather(f gfp.Field, sums, a Poly, c uint64) {
	if c == 0 {
		return
	}
	bound := 2 * f.P() * f.P()
	for i, element := range a {
		sum := sums[i] + c*element
		if sum >= bound {
			sum -= bound
		}
		sums[i] = sum
	}
}
