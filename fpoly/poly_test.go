package fpoly_test

import (
	"math/rand"
	"slices"
	"testing"

	"quincunx/fpoly"
	"quincunx/gfp"
)

// checkForms holds Norm, Degree and Same of all ways to write a.
func checkForms(t *testing.T, f gfp.Field, a fpoly.Poly) {
	t.Helper()
	normal := normalOf(f.P(), a)
	for _, b := range append(forms(f.P(), a), a) {
		expect(t, "Norm", f, fpoly.Norm(f, b), normal)
		if got := fpoly.Degree(f, b); got != len(normal)-1 {
			t.Fatal("Degree", f.P(), b, got)
		}
		if !fpoly.Same(f, a, b) || !fpoly.Same(f, b, a) || !fpoly.Same(f, b, b) || !fpoly.Same(f, b, normal) {
			t.Fatal("not the same", f.P(), a, b)
		}
	}
}

// P9.1: lists that are easily made normal.
func TestNormAndDegree(t *testing.T) {
	for _, c := range []struct {
		p      uint64
		a      fpoly.Poly
		normal fpoly.Poly
		degree int
	}{
		{7, nil, nil, -1}, {7, fpoly.Poly{}, nil, -1}, {7, fpoly.Poly{0}, nil, -1}, {7, fpoly.Poly{0, 0}, nil, -1}, {7, fpoly.Poly{7}, nil, -1}, {7, fpoly.Poly{14, 0, 700}, nil, -1},
		{7, fpoly.Poly{3}, fpoly.Poly{3}, 0}, {7, fpoly.Poly{8}, fpoly.Poly{1}, 0}, {7, fpoly.Poly{8, 0, 7}, fpoly.Poly{1}, 0}, {7, fpoly.Poly{0, 1}, fpoly.Poly{0, 1}, 1},
		{7, fpoly.Poly{7, 9, 14, 6, 21, 0}, fpoly.Poly{0, 2, 0, 6}, 3}, {2, fpoly.Poly{1, 2, 3, 4}, fpoly.Poly{1, 0, 1}, 2}, {2, fpoly.Poly{2, 4, top - 1}, nil, -1},
		{2, fpoly.Poly{top}, fpoly.Poly{1}, 0}, {3, fpoly.Poly{1, 5, top}, fpoly.Poly{1, 2}, 1}, {3, fpoly.Poly{1, 5, 1 << 63}, fpoly.Poly{1, 2, 2}, 2},
		{greatest, fpoly.Poly{greatest - 1, greatest}, fpoly.Poly{greatest - 1}, 0}, {greatest, fpoly.Poly{1 << 31, 1 << 32, top}, fpoly.Poly{1, 2, 3}, 2},
	} {
		f := fieldOf(t, c.p)
		if got := fpoly.Norm(f, c.a); !slices.Equal(got, c.normal) {
			t.Error("Norm", c, got)
		}
		if got := fpoly.Degree(f, c.a); got != c.degree {
			t.Error("Degree", c, got)
		}
	}
}

// P9.1: polynomials that are written in several ways.
func TestForms(t *testing.T) {
	source := rand.New(rand.NewSource(91))
	for _, p := range primes() {
		f := fieldOf(t, p)
		for _, a := range samples(p) {
			checkForms(t, f, a)
		}
		for range 200 {
			checkForms(t, f, drawn(source, p, source.Intn(12)))
		}
	}
}

// P9.1: all ways to write 0 are the same, and of the degree -1.
func TestNoughts(t *testing.T) {
	for _, p := range primes() {
		f := fieldOf(t, p)
		for _, a := range noughts(p) {
			expectNothing(t, "Norm", fpoly.Norm(f, a))
			if fpoly.Degree(f, a) != -1 {
				t.Fatal(p, a)
			}
			for _, b := range noughts(p) {
				if !fpoly.Same(f, a, b) {
					t.Fatal(p, a, b)
				}
			}
		}
	}
}

// P9.1: Same tells any two polynomials apart, by each of their elements.
func TestSameOfOthers(t *testing.T) {
	for _, p := range primes() {
		f := fieldOf(t, p)
		for _, a := range samples(p) {
			for _, b := range samples(p) {
				if fpoly.Same(f, a, b) != slices.Equal(normalOf(p, a), normalOf(p, b)) {
					t.Fatal(p, a, b)
				}
			}
			for i := range len(a) + 3 {
				other := append(slices.Clone(a), 0, 0, 0)
				other[i] = (other[i]%p + 1) % p
				if fpoly.Same(f, a, other) || fpoly.Same(f, other, a) {
					t.Fatal(p, a, other)
				}
			}
		}
	}
}

// P9.1: one list stands for other polynomials over other fields.
func TestSameOverOtherFields(t *testing.T) {
	for _, c := range []struct {
		a, b  fpoly.Poly
		p, no uint64
	}{
		{fpoly.Poly{1, 2}, fpoly.Poly{1}, 2, 3}, {fpoly.Poly{3, 3}, nil, 3, 2}, {fpoly.Poly{5, 1}, fpoly.Poly{0, 6}, 5, 7}, {fpoly.Poly{greatest}, fpoly.Poly{0}, greatest, greatest - 18},
	} {
		if !fpoly.Same(fieldOf(t, c.p), c.a, c.b) || fpoly.Same(fieldOf(t, c.no), c.a, c.b) {
			t.Error(c)
		}
	}
}
