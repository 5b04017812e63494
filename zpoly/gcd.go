package zpoly

import (
	"quincunx/fpoly"
	"quincunx/gfp"
	"quincunx/zint"
)

// askedPrime is the field's in which common divisors are asked for first: of the
// greatest prime, by which few numbers are 0.
const askedPrime = 1<<31 - 1

// Content is the greatest common divisor of all numbers; 0 of 0. From 1 on it can't
// become less.
func Content(a Poly) zint.Int {
	common := zint.Int{}
	for _, number := range a {
		common = zint.Gcd(common, number)
		if zint.Bits(common) == 1 {
			break
		}
	}
	return common
}

// Primitive is a by its content, with a number above 0 at its degree; 0 of 0.
func Primitive(a Poly) Poly {
	out := make(Poly, Degree(a)+1)
	if len(out) == 0 {
		return nil
	}
	common := Content(a)
	if zint.Sign(a[len(out)-1]) < 0 {
		common = zint.Neg(common)
	}
	for i := range out {
		out[i], _ = zint.Exact(a[i], common)
	}
	return out
}

// Gcd is the greatest common divisor, with a number above 0 at its degree; 0, if both
// are 0.
func Gcd(a, b Poly) Poly {
	common := commonPart(Primitive(a), Primitive(b))
	return Scale(common, zint.Gcd(Content(a), Content(b)))
}

// commonPart is the Gcd of primitive parts: primitive parts of pseudo rests have the
// same common divisors, and stay short.
func commonPart(rest, next Poly) Poly {
	if haveNone(rest, next) {
		return Of(1)
	}
	for len(next) > 0 {
		_, left, _ := Pseudo(rest, next)
		rest, next = next, Primitive(left)
	}
	return rest
}

// haveNone asks a field whether primitive parts have no common divisor but 1, which
// spares most pairs the many long rests of their way; false may mean that it doesn't
// know. Where the number at a's degree isn't 0 in the field, that at a common divisor's
// isn't either, so that its degree is the same there.
func haveNone(a, b Poly) bool {
	f, _ := gfp.New(askedPrime)
	reduced := Reduce(a, f)
	isSure := len(a) > 0 && len(reduced) == len(a)
	return isSure && len(fpoly.Gcd(f, reduced, Reduce(b, f))) == 1
}
