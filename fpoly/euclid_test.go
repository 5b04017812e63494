package fpoly_test

import (
	"math/rand"
	"slices"
	"testing"

	"quincunx/fpoly"
	"quincunx/gfp"
)

// divides tells whether b is a multiple of a.
func divides(p uint64, a, b fpoly.Poly) bool {
	if len(normalOf(p, a)) == 0 {
		return len(normalOf(p, b)) == 0
	}
	return len(restOf(p, b, a)) == 0
}

// isMonicOrNought tells whether a is normal, and has 1 at its degree, if it has one.
func isMonicOrNought(p uint64, a fpoly.Poly) bool {
	return slices.Equal(a, normalOf(p, a)) && (len(a) == 0 || a[len(a)-1] == 1)
}

// checkEuclid holds Gcd, Xgcd and Lcm against what tells them: the cofactors show that
// all that divide both divide g, and the degrees that no multiple is less.
func checkEuclid(t *testing.T, f gfp.Field, a, b fpoly.Poly) {
	t.Helper()
	p := f.P()
	g, s, u := fpoly.Xgcd(f, a, b)
	if !isMonicOrNought(p, g) || !divides(p, g, a) || !divides(p, g, b) {
		t.Fatal("g", p, a, b, g)
	}
	expect(t, "Gcd", f, fpoly.Gcd(f, a, b), g)
	expect(t, "s a + t b", f, sumOf(p, productOf(p, s, a), productOf(p, u, b), 1), g)
	checkCofactors(t, f, a, b, len(g)-1, s, u)
	checkLcm(t, f, a, b, len(g)-1)
}

// checkCofactors holds which of all cofactors are answered; the degree is the Gcd's.
func checkCofactors(t *testing.T, f gfp.Field, a, b fpoly.Poly, degree int, s, u fpoly.Poly) {
	t.Helper()
	p := f.P()
	if !slices.Equal(s, normalOf(p, s)) || !slices.Equal(u, normalOf(p, u)) {
		t.Fatal("not normal", p, a, b, s, u)
	}
	above, below := normalOf(p, a), normalOf(p, b)
	switch {
	case len(above) == 0 && len(below) == 0:
		expectNothing(t, "s of noughts", s)
		expectNothing(t, "t of noughts", u)
	case len(below) == 0:
		expect(t, "s of b 0", f, s, fpoly.Poly{inverseOf(p, above[len(above)-1])})
		expectNothing(t, "t of b 0", u)
	case len(below)-1 == degree:
		expectNothing(t, "s, where b divides a", s)
	case len(s)-1 >= len(below)-1-degree:
		t.Fatal("s of a degree too great", p, a, b, s)
	}
}

// checkLcm holds the degree of the Lcm against the Gcd's.
func checkLcm(t *testing.T, f gfp.Field, a, b fpoly.Poly, degree int) {
	t.Helper()
	p := f.P()
	got, above, below := fpoly.Lcm(f, a, b), normalOf(p, a), normalOf(p, b)
	if len(above) == 0 || len(below) == 0 {
		expectNothing(t, "Lcm of 0", got)
		return
	}
	if !isMonicOrNought(p, got) || len(got)-1 != len(above)-1+len(below)-1-degree || !divides(p, a, got) || !divides(p, b, got) {
		t.Fatal("Lcm", p, a, b, got)
	}
}

// P9.2: answers that are easily reckoned.
func TestEuclid(t *testing.T) {
	for _, c := range []struct {
		p                uint64
		a, b, g, s, u, l fpoly.Poly
	}{
		{7, fpoly.Poly{1, 2, 1}, fpoly.Poly{6, 0, 1}, fpoly.Poly{1, 1}, fpoly.Poly{4}, fpoly.Poly{3}, fpoly.Poly{6, 6, 1, 1}},
		{7, fpoly.Poly{0, 2}, fpoly.Poly{0, 0, 3}, fpoly.Poly{0, 1}, fpoly.Poly{4}, nil, fpoly.Poly{0, 0, 1}}, {7, fpoly.Poly{0, 0, 3}, fpoly.Poly{0, 2}, fpoly.Poly{0, 1}, nil, fpoly.Poly{4}, fpoly.Poly{0, 0, 1}},
		{7, fpoly.Poly{1, 2}, nil, fpoly.Poly{4, 1}, fpoly.Poly{4}, nil, nil}, {7, nil, fpoly.Poly{1, 2}, fpoly.Poly{4, 1}, nil, fpoly.Poly{4}, nil}, {7, nil, nil, nil, nil, nil, nil}, {7, fpoly.Poly{7}, fpoly.Poly{0, 0}, nil, nil, nil, nil},
		{7, fpoly.Poly{3}, nil, fpoly.Poly{1}, fpoly.Poly{5}, nil, nil}, {7, fpoly.Poly{3}, fpoly.Poly{5}, fpoly.Poly{1}, nil, fpoly.Poly{3}, fpoly.Poly{1}}, {7, fpoly.Poly{3}, fpoly.Poly{1, 1}, fpoly.Poly{1}, fpoly.Poly{5}, nil, fpoly.Poly{1, 1}},
		{7, fpoly.Poly{1, 1}, fpoly.Poly{3}, fpoly.Poly{1}, nil, fpoly.Poly{5}, fpoly.Poly{1, 1}}, {7, fpoly.Poly{1, 2}, fpoly.Poly{1, 2}, fpoly.Poly{4, 1}, nil, fpoly.Poly{4}, fpoly.Poly{4, 1}},
		{7, fpoly.Poly{1, 2}, fpoly.Poly{8, 9, 7}, fpoly.Poly{4, 1}, nil, fpoly.Poly{4}, fpoly.Poly{4, 1}}, {7, fpoly.Poly{0, 1}, fpoly.Poly{1, 1}, fpoly.Poly{1}, fpoly.Poly{6}, fpoly.Poly{1}, fpoly.Poly{0, 1, 1}},
		{7, fpoly.Poly{0, 1}, fpoly.Poly{1, 0, 1}, fpoly.Poly{1}, fpoly.Poly{0, 6}, fpoly.Poly{1}, fpoly.Poly{0, 1, 0, 1}}, {7, fpoly.Poly{1, 0, 1}, fpoly.Poly{0, 1}, fpoly.Poly{1}, fpoly.Poly{1}, fpoly.Poly{0, 6}, fpoly.Poly{0, 1, 0, 1}},
		{2, fpoly.Poly{1, 0, 1}, fpoly.Poly{1, 1}, fpoly.Poly{1, 1}, nil, fpoly.Poly{1}, fpoly.Poly{1, 0, 1}}, {2, fpoly.Poly{1, 1}, fpoly.Poly{1, 0, 1}, fpoly.Poly{1, 1}, fpoly.Poly{1}, nil, fpoly.Poly{1, 0, 1}},
		{2, fpoly.Poly{1, 1, 1}, fpoly.Poly{1, 1, 0, 1}, fpoly.Poly{1}, fpoly.Poly{0, 0, 1}, fpoly.Poly{1, 1}, fpoly.Poly{1, 0, 0, 0, 1, 1}},
		{greatest, fpoly.Poly{0, 2}, nil, fpoly.Poly{0, 1}, fpoly.Poly{1 << 30}, nil, nil}, {greatest, fpoly.Poly{0, 2}, fpoly.Poly{0, 2}, fpoly.Poly{0, 1}, nil, fpoly.Poly{1 << 30}, fpoly.Poly{0, 1}},
	} {
		f := fieldOf(t, c.p)
		g, s, u := fpoly.Xgcd(f, c.a, c.b)
		if !slices.Equal(g, c.g) || !slices.Equal(s, c.s) || !slices.Equal(u, c.u) {
			t.Error("Xgcd", c, g, s, u)
		}
		if g := fpoly.Gcd(f, c.a, c.b); !slices.Equal(g, c.g) {
			t.Error("Gcd", c, g)
		}
		if l := fpoly.Lcm(f, c.a, c.b); !slices.Equal(l, c.l) {
			t.Error("Lcm", c, l)
		}
	}
}

// P9.2: all pairs of short lists over the least fields.
func TestEuclidOverSmallFields(t *testing.T) {
	for _, c := range []struct {
		p uint64
		n int
	}{{2, 6}, {3, 4}, {5, 2}, {7, 2}} {
		f, list := fieldOf(t, c.p), all(c.p, c.n)
		for _, a := range list {
			for _, b := range list {
				checkEuclid(t, f, a, b)
			}
		}
	}
}

// P9.2: the monic divisor of the greatest degree, and the monic multiple of the least,
// found by trying all.
func TestEuclidByTrying(t *testing.T) {
	for _, c := range []struct {
		p      uint64
		degree int
	}{{2, 3}, {3, 2}} {
		f := fieldOf(t, c.p)
		for _, a := range all(c.p, c.degree+1) {
			for _, b := range all(c.p, c.degree+1) {
				if fpoly.Degree(f, a) < 0 || fpoly.Degree(f, b) < 0 {
					continue
				}
				var greatest, least fpoly.Poly
				for degree := range 2*c.degree + 1 {
					for _, m := range monics(c.p, degree) {
						if divides(c.p, m, a) && divides(c.p, m, b) {
							greatest = m
						}
						if least == nil && divides(c.p, a, m) && divides(c.p, b, m) {
							least = m
						}
					}
				}
				expect(t, "Gcd", f, fpoly.Gcd(f, a, b), greatest)
				expect(t, "Lcm", f, fpoly.Lcm(f, a, b), least)
			}
		}
	}
}

// P9.2: samples, written in all ways.
func TestEuclidOfSamples(t *testing.T) {
	for _, p := range primes() {
		f := fieldOf(t, p)
		for i, a := range samples(p) {
			for k, b := range samples(p) {
				checkEuclid(t, f, a, b)
				for n, c := range forms(p, a) {
					checkEuclid(t, f, c, forms(p, b)[(i+k+n)%7])
				}
			}
		}
	}
}

// P9.2: where one or both are 0, however it is written.
func TestEuclidOfNoughts(t *testing.T) {
	for _, p := range primes() {
		f := fieldOf(t, p)
		for _, nought := range noughts(p) {
			for _, a := range samples(p) {
				for _, b := range forms(p, a) {
					checkEuclid(t, f, b, nought)
					checkEuclid(t, f, nought, b)
					expect(t, "Gcd of a and 0", f, fpoly.Gcd(f, b, nought), monicOf(p, a))
					expect(t, "Gcd of 0 and a", f, fpoly.Gcd(f, nought, b), monicOf(p, a))
				}
			}
		}
	}
}

// P9.2: where one divides the other, and where the two are the same, or multiples of
// one another by elements.
func TestEuclidOfMultiples(t *testing.T) {
	source := rand.New(rand.NewSource(94))
	for _, p := range primes() {
		f := fieldOf(t, p)
		for range 60 {
			a := drawnMonic(source, p, source.Intn(7))
			b := productOf(p, a, drawnMonic(source, p, source.Intn(6)))
			multiple := sumOf(p, nil, a, 1+source.Uint64()%(p-1))
			checkEuclid(t, f, a, b)
			checkEuclid(t, f, b, a)
			checkEuclid(t, f, a, a)
			checkEuclid(t, f, a, multiple)
			checkEuclid(t, f, multiple, b)
			expect(t, "Gcd", f, fpoly.Gcd(f, multiple, b), a)
			expect(t, "Lcm", f, fpoly.Lcm(f, multiple, b), b)
			expect(t, "Gcd", f, fpoly.Gcd(f, multiple, a), a)
			expect(t, "Lcm", f, fpoly.Lcm(f, a, multiple), a)
		}
	}
}

// P9.2: polynomials without roots in common, of which it is known what they have in
// common: nothing but 1, or what both are multiplied by.
func TestEuclidOfRoots(t *testing.T) {
	source := rand.New(rand.NewSource(95))
	for _, p := range primes()[3:] {
		f := fieldOf(t, p)
		for range 40 {
			a, b, common := fpoly.Poly{1}, fpoly.Poly{1}, drawnMonic(source, p, source.Intn(5))
			for root := range uint64(6) {
				times := fpoly.Poly{p - root, 1}
				if source.Intn(2) == 0 {
					a = productOf(p, a, times)
				} else {
					b = productOf(p, b, times)
				}
			}
			expect(t, "Gcd", f, fpoly.Gcd(f, a, b), fpoly.Poly{1})
			expect(t, "Lcm", f, fpoly.Lcm(f, a, b), productOf(p, a, b))
			checkEuclid(t, f, a, b)
			expect(t, "Gcd", f, fpoly.Gcd(f, productOf(p, a, common), productOf(p, common, b)), common)
			checkEuclid(t, f, productOf(p, a, common), productOf(p, common, b))
		}
	}
}

// P9.2: drawn polynomials, with divisors in common and without, short and long.
func TestEuclidOfDrawn(t *testing.T) {
	source := rand.New(rand.NewSource(96))
	for _, p := range primes() {
		f := fieldOf(t, p)
		for range 200 {
			a, b, common := drawn(source, p, source.Intn(12)), drawn(source, p, source.Intn(12)), drawn(source, p, source.Intn(5))
			checkEuclid(t, f, a, b)
			checkEuclid(t, f, productOf(p, a, common), productOf(p, b, common))
		}
		for _, n := range []int{30, 80} {
			common := drawn(source, p, n/2)
			checkEuclid(t, f, productOf(p, drawn(source, p, n), common), productOf(p, drawn(source, p, n/3), common))
			checkEuclid(t, f, drawn(source, p, n), drawn(source, p, n))
		}
	}
}
