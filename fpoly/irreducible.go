package fpoly

import "quincunx/gfp"

// Irreducible tells whether a has a degree of 1 or more, and isn't a product of two
// such of lesser degrees. If it is, it has an irreducible divisor of at most half its
// degree; and those of the degree i are what divides x to the p to the i, less x, and
// no such with a lesser i.
func Irreducible(f gfp.Field, a Poly) bool {
	a = Norm(f, a)
	degree := len(a) - 1
	if degree < 1 {
		return false
	}
	x := Poly{0, 1}
	raised, by := x, frobenius{field: f, modulus: a}
	for range degree / 2 {
		raised = by.raise(raised)
		if len(Gcd(f, a, Sub(f, raised, x))) > 1 {
			return false
		}
	}
	return true
}

// frobenius raises polynomials to the p by a modulus. Of a sum this is the sum of the
// raised ones, and an element stays: what becomes of the powers of x tells all.
type frobenius struct {
	field   gfp.Field
	modulus Poly
	images  []Poly
}

// raise is a to the p; a has a lesser degree than the modulus.
func (r *frobenius) raise(a Poly) Poly {
	sums := make(Poly, len(r.modulus)-1)
	for i, element := range a {
		gather(r.field, sums, r.image(i), element)
	}
	return Norm(r.field, sums)
}

// image is x to the i, raised. Each is made when it is asked for first: a modulus that
// has a divisor of the degree 1 is found out by two of them.
func (r *frobenius) image(i int) Poly {
	for len(r.images) <= i {
		r.images = append(r.images, r.another())
	}
	return r.images[i]
}

// another is the image behind those that there are: the one ahead times that of x.
func (r *frobenius) another() Poly {
	switch n := len(r.images); n {
	case 0:
		return Poly{1}
	case 1:
		return power(r.field, Poly{0, 1}, r.field.P(), r.modulus)
	default:
		return multiplyBy(r.field, r.images[1], r.images[n-1], r.modulus)
	}
}
