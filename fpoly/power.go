package fpoly

import (
	"math/bits"

	"quincunx/gfp"
)

// PowMod is the rest of a to the n by m; false, if n is below 0, or m is 0.
func PowMod(f gfp.Field, a Poly, n int, m Poly) (Poly, bool) {
	m = Norm(f, m)
	if n < 0 || len(m) == 0 {
		return nil, false
	}
	return power(f, Norm(f, a), uint64(n), m), true
}

// power goes by squares, from the exponent's greatest bit on: what is multiplied
// beside them is the base alone, and that of x is short.
func power(f gfp.Field, a Poly, n uint64, m Poly) Poly {
	_, base := divide(f, a, m)
	_, out := divide(f, Poly{1}, m)
	for bit := bits.Len64(n) - 1; bit >= 0; bit-- {
		out = multiplyBy(f, out, out, m)
		if n>>bit&1 == 1 {
			out = multiplyBy(f, base, out, m)
		}
	}
	return out
}

// multiplyBy is the rest of the product by m; all are normal, and m isn't 0.
func multiplyBy(f gfp.Field, a, b, m Poly) Poly {
	_, rest := divide(f, multiply(f, a, b), m)
	return rest
}
