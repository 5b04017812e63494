package fpoly_test

import (
	"math/rand"
	"slices"
	"testing"

	"quincunx/fpoly"
	"quincunx/gfp"
)

// checkDivMod holds quotient and rest against what tells them: of each two there are
// just these.
func checkDivMod(t *testing.T, f gfp.Field, a, b fpoly.Poly) {
	t.Helper()
	p := f.P()
	quotient, rest, ok := fpoly.DivMod(f, a, b)
	degree := len(normalOf(p, b)) - 1
	if degree < 0 {
		if ok || len(quotient) != 0 || len(rest) != 0 {
			t.Fatal("by 0", p, a, b, quotient, rest, ok)
		}
		return
	}
	if !ok || len(rest) > degree || !slices.Equal(quotient, normalOf(p, quotient)) || !slices.Equal(rest, normalOf(p, rest)) {
		t.Fatal(p, a, b, quotient, rest, ok)
	}
	expect(t, "q b + r", f, sumOf(p, productOf(p, quotient, b), rest, 1), a)
}

// P9.1: quotients and rests that are easily reckoned.
func TestDivMod(t *testing.T) {
	for _, c := range []struct {
		p                    uint64
		a, b, quotient, rest fpoly.Poly
	}{
		{7, fpoly.Poly{1, 0, 0, 1}, fpoly.Poly{1, 1}, fpoly.Poly{1, 6, 1}, nil}, {7, fpoly.Poly{2, 0, 0, 1}, fpoly.Poly{1, 1}, fpoly.Poly{1, 6, 1}, fpoly.Poly{1}}, {2, fpoly.Poly{1, 0, 1}, fpoly.Poly{1, 1}, fpoly.Poly{1, 1}, nil},
		{7, fpoly.Poly{1, 2}, fpoly.Poly{1, 0, 1}, nil, fpoly.Poly{1, 2}}, {7, fpoly.Poly{1, 2}, fpoly.Poly{3, 4}, fpoly.Poly{4}, fpoly.Poly{3}}, {7, fpoly.Poly{1, 2, 5}, fpoly.Poly{3}, fpoly.Poly{5, 3, 4}, nil},
		{7, fpoly.Poly{1, 2, 5}, fpoly.Poly{1}, fpoly.Poly{1, 2, 5}, nil}, {7, fpoly.Poly{1, 2, 5}, fpoly.Poly{8, 7}, fpoly.Poly{1, 2, 5}, nil}, {7, nil, fpoly.Poly{1, 1}, nil, nil}, {7, fpoly.Poly{0, 7}, fpoly.Poly{3}, nil, nil},
		{7, fpoly.Poly{5}, fpoly.Poly{3}, fpoly.Poly{4}, nil}, {7, fpoly.Poly{5}, fpoly.Poly{3, 1}, nil, fpoly.Poly{5}}, {7, fpoly.Poly{12, 7, 14}, fpoly.Poly{3, 1, 0}, nil, fpoly.Poly{5}}, {7, fpoly.Poly{0, 0, 0, 0, 1}, fpoly.Poly{0, 0, 2}, fpoly.Poly{0, 0, 4}, nil},
		{7, fpoly.Poly{5, 0, 0, 0, 1}, fpoly.Poly{0, 0, 2, 0, 7}, fpoly.Poly{0, 0, 4}, fpoly.Poly{5}}, {3, fpoly.Poly{1, 1, 1, 1}, fpoly.Poly{1, 2}, fpoly.Poly{0, 1, 2}, fpoly.Poly{1}},
		{greatest, fpoly.Poly{greatest - 1, 0, 1}, fpoly.Poly{1, 1}, fpoly.Poly{greatest - 1, 1}, nil}, {greatest, fpoly.Poly{1, 0, 1}, fpoly.Poly{0, 2}, fpoly.Poly{0, 1 << 30}, fpoly.Poly{1}},
	} {
		quotient, rest, ok := fpoly.DivMod(fieldOf(t, c.p), c.a, c.b)
		if !ok || !slices.Equal(quotient, c.quotient) || !slices.Equal(rest, c.rest) {
			t.Error(c, quotient, rest, ok)
		}
	}
}

// P9.1: by 0, however it is written, of any polynomial, 0 too.
func TestDivModByNought(t *testing.T) {
	for _, p := range primes() {
		f := fieldOf(t, p)
		for _, nought := range noughts(p) {
			for _, a := range samples(p) {
				checkDivMod(t, f, a, nought)
			}
		}
	}
}

// P9.1: all pairs of short lists over the least fields.
func TestDivModOverSmallFields(t *testing.T) {
	for _, c := range []struct {
		p    uint64
		n, k int
	}{{2, 7, 4}, {2, 4, 6}, {3, 4, 3}, {5, 3, 2}, {7, 3, 2}} {
		f := fieldOf(t, c.p)
		for _, a := range all(c.p, c.n) {
			for _, b := range all(c.p, c.k) {
				checkDivMod(t, f, a, b)
			}
		}
	}
}

// P9.1: samples, written in all ways: by those of degree 0, of a greater degree, and
// whose greatest element isn't 1, among them.
func TestDivModOfSamples(t *testing.T) {
	for _, p := range primes() {
		f := fieldOf(t, p)
		for i, a := range samples(p) {
			for k, b := range samples(p) {
				checkDivMod(t, f, a, b)
				for n, c := range forms(p, a) {
					checkDivMod(t, f, c, forms(p, b)[(i+k+n)%7])
				}
			}
		}
	}
}

// P9.1: drawn polynomials of all degrees, the greatest elements alone, and products,
// of which nothing is left.
func TestDivModOfDrawn(t *testing.T) {
	source := rand.New(rand.NewSource(93))
	for _, p := range primes() {
		f := fieldOf(t, p)
		for range 300 {
			checkDivMod(t, f, drawn(source, p, source.Intn(20)), drawn(source, p, source.Intn(12)))
		}
		for _, n := range []int{1, 2, 7, 50, 300} {
			a := slices.Repeat(fpoly.Poly{p - 1}, n)
			checkDivMod(t, f, a, slices.Repeat(fpoly.Poly{p - 1}, n/2+1))
			checkDivMod(t, f, a, append(slices.Repeat(fpoly.Poly{p - 1}, n/3), 1))
			checkDivMod(t, f, drawn(source, p, 2*n), drawn(source, p, n))
		}
		for range 50 {
			a, b := drawn(source, p, source.Intn(9)), drawnMonic(source, p, source.Intn(9))
			quotient, rest, ok := fpoly.DivMod(f, productOf(p, a, b), b)
			if !ok || len(rest) != 0 {
				t.Fatal(p, a, b, rest, ok)
			}
			expect(t, "a b by b", f, quotient, a)
		}
	}
}
