package fpoly_test

import (
	"math/rand"
	"testing"

	"quincunx/fpoly"
	"quincunx/gfp"
)

// checkLaws holds what makes a ring, with the calls alone.
func checkLaws(t *testing.T, f gfp.Field, a, b, c fpoly.Poly) {
	t.Helper()
	expect(t, "a + b = b + a", f, fpoly.Add(f, a, b), fpoly.Add(f, b, a))
	expect(t, "a b = b a", f, fpoly.Mul(f, a, b), fpoly.Mul(f, b, a))
	expect(t, "(a + b) + c = a + (b + c)", f, fpoly.Add(f, fpoly.Add(f, a, b), c), fpoly.Add(f, a, fpoly.Add(f, b, c)))
	expect(t, "(a b) c = a (b c)", f, fpoly.Mul(f, fpoly.Mul(f, a, b), c), fpoly.Mul(f, a, fpoly.Mul(f, b, c)))
	expect(t, "a (b + c) = a b + a c", f, fpoly.Mul(f, a, fpoly.Add(f, b, c)), fpoly.Add(f, fpoly.Mul(f, a, b), fpoly.Mul(f, a, c)))
	expect(t, "(a - b) + b = a", f, fpoly.Add(f, fpoly.Sub(f, a, b), b), fpoly.Norm(f, a))
	expect(t, "a - b = a + -b", f, fpoly.Sub(f, a, b), fpoly.Add(f, a, fpoly.Scale(f, b, f.Neg(1))))
	expect(t, "a 1 = a", f, fpoly.Mul(f, a, fpoly.Poly{1}), fpoly.Norm(f, a))
	expectNothing(t, "a - a = 0", fpoly.Sub(f, a, a))
}

// checkDegrees holds what becomes of degrees: there are no divisors of 0.
func checkDegrees(t *testing.T, f gfp.Field, a, b fpoly.Poly) {
	t.Helper()
	m, n := fpoly.Degree(f, a), fpoly.Degree(f, b)
	product, sum := fpoly.Degree(f, fpoly.Mul(f, a, b)), fpoly.Degree(f, fpoly.Add(f, a, b))
	if m >= 0 && n >= 0 && product != m+n || min(m, n) < 0 && product != -1 {
		t.Fatal("the product's degree", f.P(), a, b, product)
	}
	if m != n && sum != max(m, n) || sum > max(m, n) {
		t.Fatal("the sum's degree", f.P(), a, b, sum)
	}
}

// checkMaps holds what goes with sums and products: values, multiples, and the
// product's derivative.
func checkMaps(t *testing.T, f gfp.Field, a, b fpoly.Poly, x uint64) {
	t.Helper()
	at := func(a fpoly.Poly) uint64 { return fpoly.Eval(f, a, x) }
	if at(fpoly.Add(f, a, b)) != f.Add(at(a), at(b)) || at(fpoly.Mul(f, a, b)) != f.Mul(at(a), at(b)) || at(fpoly.Sub(f, a, b)) != f.Sub(at(a), at(b)) {
		t.Fatal("values", f.P(), a, b, x)
	}
	_, rest, ok := fpoly.DivMod(f, a, fpoly.Poly{f.Neg(x), 1})
	if !ok {
		t.Fatal("by x less a word", f.P(), x)
	}
	expect(t, "the rest by x less a word is the value", f, rest, fpoly.Poly{at(a)})
	expect(t, "Scale is a product", f, fpoly.Scale(f, a, x), fpoly.Mul(f, a, fpoly.Poly{x}))
	left, right := fpoly.Mul(f, fpoly.Derive(f, a), b), fpoly.Mul(f, a, fpoly.Derive(f, b))
	expect(t, "(a b)' = a' b + a b'", f, fpoly.Derive(f, fpoly.Mul(f, a, b)), fpoly.Add(f, left, right))
	expect(t, "(a + b)' = a' + b'", f, fpoly.Derive(f, fpoly.Add(f, a, b)), fpoly.Add(f, fpoly.Derive(f, a), fpoly.Derive(f, b)))
}

// P9.4: all triples of short lists over the least fields.
func TestSmallRings(t *testing.T) {
	for _, c := range []struct {
		p uint64
		n int
	}{{2, 4}, {3, 2}, {5, 1}} {
		f, list := fieldOf(t, c.p), all(c.p, c.n)
		for _, a := range list {
			for _, b := range list {
				checkDegrees(t, f, a, b)
				checkMaps(t, f, a, b, uint64(len(list)))
				for _, d := range list {
					checkLaws(t, f, a, b, d)
				}
			}
		}
	}
}

// P9.4: samples and drawn polynomials over all fields.
func TestRings(t *testing.T) {
	source := rand.New(rand.NewSource(102))
	for _, p := range primes() {
		f := fieldOf(t, p)
		list := samples(p)
		for i, a := range list {
			for k, b := range list {
				checkLaws(t, f, a, b, list[(3*i+5*k)%len(list)])
				checkDegrees(t, f, a, b)
				checkMaps(t, f, a, b, drawnWord(source, p))
			}
		}
		for range 100 {
			a, b := drawn(source, p, source.Intn(30)), drawn(source, p, source.Intn(30))
			checkLaws(t, f, a, b, drawn(source, p, source.Intn(30)))
			checkDegrees(t, f, a, b)
			checkMaps(t, f, a, b, drawnWord(source, p))
		}
	}
}

// P9.2, P9.4: the Gcd and the Lcm go with products, and hang on no order.
func TestLawsOfDivisors(t *testing.T) {
	source := rand.New(rand.NewSource(103))
	for _, p := range primes() {
		f := fieldOf(t, p)
		for range 60 {
			a, b, c := drawn(source, p, source.Intn(8)), drawn(source, p, source.Intn(8)), drawn(source, p, source.Intn(4))
			g, l := fpoly.Gcd(f, a, b), fpoly.Lcm(f, a, b)
			expect(t, "Gcd of b, a", f, fpoly.Gcd(f, b, a), g)
			expect(t, "Lcm of b, a", f, fpoly.Lcm(f, b, a), l)
			expect(t, "Gcd times Lcm", f, fpoly.Mul(f, g, l), fpoly.Monic(f, fpoly.Mul(f, a, b)))
			expect(t, "Gcd of a c, b c", f, fpoly.Gcd(f, fpoly.Mul(f, a, c), fpoly.Mul(f, b, c)), fpoly.Monic(f, fpoly.Mul(f, g, c)))
			expect(t, "Gcd of a, b + a c", f, fpoly.Gcd(f, a, fpoly.Add(f, b, fpoly.Mul(f, a, c))), g)
			expect(t, "Gcd of three", f, fpoly.Gcd(f, g, c), fpoly.Gcd(f, a, fpoly.Gcd(f, b, c)))
			expect(t, "Lcm of three", f, fpoly.Lcm(f, l, c), fpoly.Lcm(f, a, fpoly.Lcm(f, b, c)))
		}
	}
}
