package gfp_test

import (
	"math/rand"
	"testing"

	"quincunx/gfp"
	"quincunx/zint"
)

func checkLaws(t *testing.T, f gfp.Field, a, b, c uint64) {
	t.Helper()
	same(t, "a + b = b + a", f.Add(a, b), f.Add(b, a))
	same(t, "a b = b a", f.Mul(a, b), f.Mul(b, a))
	same(t, "(a + b) + c = a + (b + c)", f.Add(f.Add(a, b), c), f.Add(a, f.Add(b, c)))
	same(t, "(a b) c = a (b c)", f.Mul(f.Mul(a, b), c), f.Mul(a, f.Mul(b, c)))
	same(t, "a (b + c) = a b + a c", f.Mul(a, f.Add(b, c)), f.Add(f.Mul(a, b), f.Mul(a, c)))
	same(t, "a - b = a + -b", f.Sub(a, b), f.Add(a, f.Neg(b)))
	same(t, "(a - b) + b = a", f.Add(f.Sub(a, b), b), f.Norm(a))
	same(t, "-a b = -(a b)", f.Mul(f.Neg(a), b), f.Neg(f.Mul(a, b)))
}

// checkOne holds what each element alone must keep.
func checkOne(t *testing.T, f gfp.Field, a uint64) {
	t.Helper()
	p, normal := f.P(), f.Norm(a)
	if normal >= p {
		t.Fatal("no element", a, p)
	}
	same(t, "a + 0 = a", f.Add(a, 0), normal)
	same(t, "a 1 = a", f.Mul(a, 1), normal)
	same(t, "a 0 = 0", f.Mul(a, 0), 0)
	same(t, "a + -a = 0", f.Add(a, f.Neg(a)), 0)
	same(t, "a - a = 0", f.Sub(a, a), 0)
	same(t, "-(-a) = a", f.Neg(f.Neg(a)), normal)
	same(t, "the inverse's inverse", f.Inv(f.Inv(a)), normal)
	same(t, "a to the -1", f.Pow(a, -1), f.Inv(a))
	same(t, "a to the p", f.Pow(a, int(p)), normal)
	if normal != 0 {
		same(t, "a by its inverse", f.Mul(a, f.Inv(a)), 1)
		same(t, "a to the p - 1", f.Pow(a, int(p-1)), 1)
	}
}

// P8.2: all triples of elements by small primes, and of the words behind them.
func TestSmallFields(t *testing.T) {
	for _, p := range []uint64{2, 3, 5, 7, 11} {
		f := fieldOf(t, p)
		for a := range p + 2 {
			checkOne(t, f, a)
			for b := range p + 2 {
				for c := range p + 2 {
					checkLaws(t, f, a, b, c)
				}
			}
		}
	}
}

// P8.2: words of all kinds, by all primes.
func TestFields(t *testing.T) {
	source := rand.New(rand.NewSource(87))
	for _, p := range primes() {
		f := fieldOf(t, p)
		list := words(p)
		for i, a := range list {
			checkOne(t, f, a)
			for k, b := range list {
				checkLaws(t, f, a, b, list[(3*i+5*k)%len(list)])
			}
		}
		for range 300 {
			a := drawn(source, p)
			checkOne(t, f, a)
			checkLaws(t, f, a, drawn(source, p), drawn(source, p))
		}
	}
}

// P8.2: no two elements that aren't 0 have the product 0, and each one that isn't 0
// has its inverse for itself.
func TestNoDivisorsOfNought(t *testing.T) {
	for _, p := range []uint64{2, 3, 5, 7, 11, 13, 31, 101} {
		f := fieldOf(t, p)
		seen := make([]bool, p)
		for a := uint64(1); a < p; a++ {
			for b := uint64(1); b < p; b++ {
				if f.Mul(a, b) == 0 {
					t.Fatal(p, a, b)
				}
			}
			inverse := f.Inv(a)
			if inverse == 0 || seen[inverse] {
				t.Fatal(p, a, inverse)
			}
			seen[inverse] = true
		}
	}
}

// P8.1, P8.2: exponents go with sums, and powers with products.
func TestLawsOfPowers(t *testing.T) {
	source := rand.New(rand.NewSource(88))
	for _, p := range primes() {
		f := fieldOf(t, p)
		for range 200 {
			a, b := drawn(source, p), drawn(source, p)
			n, k := source.Intn(2000)-1000, source.Intn(2000)-1000
			same(t, "(a b) to the n", f.Pow(f.Mul(a, b), n), f.Mul(f.Pow(a, n), f.Pow(b, n)))
			same(t, "(a to the n) to the k", f.Pow(f.Pow(a, n), k), f.Pow(a, n*k))
			if f.Norm(a) != 0 {
				same(t, "a to the n + k", f.Mul(f.Pow(a, n), f.Pow(a, k)), f.Pow(a, n+k))
			}
		}
	}
}

// P8.1, P8.2: Of goes with sums, differences and products of whole numbers.
func TestOfGoesWithArithmetic(t *testing.T) {
	source := rand.New(rand.NewSource(89))
	for _, p := range primes() {
		f := fieldOf(t, p)
		for range 100 {
			a, b := drawnInt(source, 1+source.Intn(4)), drawnInt(source, 1+source.Intn(4))
			same(t, "Of a + b", f.Of(zint.Add(a, b)), f.Add(f.Of(a), f.Of(b)))
			same(t, "Of a - b", f.Of(zint.Sub(a, b)), f.Sub(f.Of(a), f.Of(b)))
			same(t, "Of a b", f.Of(zint.Mul(a, b)), f.Mul(f.Of(a), f.Of(b)))
			same(t, "Of -a", f.Of(zint.Neg(a)), f.Neg(f.Of(a)))
		}
	}
}
