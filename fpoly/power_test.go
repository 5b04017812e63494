package fpoly_test

import (
	"math"
	"math/rand"
	"testing"

	"quincunx/fpoly"
	"quincunx/gfp"
)

// powerModOf is the rest of a to the n by m, by its halves.
func powerModOf(p uint64, a fpoly.Poly, n int, m fpoly.Poly) fpoly.Poly {
	if n == 0 {
		return restOf(p, fpoly.Poly{1}, m)
	}
	half := powerModOf(p, a, n/2, m)
	out := restOf(p, productOf(p, half, half), m)
	if n%2 == 1 {
		out = restOf(p, productOf(p, out, restOf(p, a, m)), m)
	}
	return out
}

// checkPowMod holds PowMod against a reckoning of its own, by wrong exponents and
// moduli too.
func checkPowMod(t *testing.T, f gfp.Field, a fpoly.Poly, n int, m fpoly.Poly) {
	t.Helper()
	got, ok := fpoly.PowMod(f, a, n, m)
	if n < 0 || len(normalOf(f.P(), m)) == 0 {
		if ok || len(got) != 0 {
			t.Fatal("not refused", f.P(), a, n, m, got, ok)
		}
		return
	}
	if !ok {
		t.Fatal("refused", f.P(), a, n, m)
	}
	expect(t, "PowMod", f, got, powerModOf(f.P(), a, n, m))
}

// P9.3: powers that are easily reckoned.
func TestPowMod(t *testing.T) {
	for _, c := range []struct {
		p       uint64
		a       fpoly.Poly
		n       int
		m, rest fpoly.Poly
	}{
		{7, fpoly.Poly{0, 1}, 49, fpoly.Poly{1, 0, 1}, fpoly.Poly{0, 1}}, {7, fpoly.Poly{0, 1}, 2, fpoly.Poly{1, 0, 1}, fpoly.Poly{6}}, {7, fpoly.Poly{0, 1}, 7, fpoly.Poly{1, 0, 1}, fpoly.Poly{0, 6}},
		{7, fpoly.Poly{1, 1}, 2, fpoly.Poly{0, 0, 0, 1}, fpoly.Poly{1, 2, 1}}, {7, fpoly.Poly{1, 1}, 7, fpoly.Poly{0, 0, 0, 0, 0, 0, 0, 0, 1}, fpoly.Poly{1, 0, 0, 0, 0, 0, 0, 1}}, {7, fpoly.Poly{0, 1}, 3, fpoly.Poly{0, 0, 0, 5}, nil},
		{7, fpoly.Poly{3, 1}, 0, fpoly.Poly{1, 0, 1}, fpoly.Poly{1}}, {7, fpoly.Poly{3, 1}, 1, fpoly.Poly{1, 0, 1}, fpoly.Poly{3, 1}}, {7, fpoly.Poly{3, 1, 2}, 1, fpoly.Poly{1, 0, 1}, fpoly.Poly{1, 1}},
		{7, nil, 0, fpoly.Poly{1, 0, 1}, fpoly.Poly{1}}, {7, nil, 1, fpoly.Poly{1, 0, 1}, nil}, {7, fpoly.Poly{7, 0}, 0, fpoly.Poly{1, 0, 1}, fpoly.Poly{1}}, {7, fpoly.Poly{0, 14}, 5, fpoly.Poly{1, 0, 1}, nil},
		{7, fpoly.Poly{3, 1}, 0, fpoly.Poly{5}, nil}, {7, fpoly.Poly{3, 1}, 1, fpoly.Poly{5}, nil}, {7, fpoly.Poly{3}, 20, fpoly.Poly{12, 7}, nil}, {7, nil, 0, fpoly.Poly{1}, nil}, {7, fpoly.Poly{3}, 2, fpoly.Poly{0, 1}, fpoly.Poly{2}},
		{2, fpoly.Poly{1, 1}, 2, fpoly.Poly{0, 0, 0, 1}, fpoly.Poly{1, 0, 1}}, {2, fpoly.Poly{0, 1}, 3, fpoly.Poly{1, 1, 1}, fpoly.Poly{1}}, {2, fpoly.Poly{0, 1}, math.MaxInt, fpoly.Poly{1, 1, 1}, fpoly.Poly{0, 1}},
		{greatest, fpoly.Poly{greatest - 1}, math.MaxInt, fpoly.Poly{0, 1}, fpoly.Poly{greatest - 1}}, {greatest, fpoly.Poly{0, greatest - 1}, 2, fpoly.Poly{1, 0, 0, 1}, fpoly.Poly{0, 0, 1}},
	} {
		f := fieldOf(t, c.p)
		got, ok := fpoly.PowMod(f, c.a, c.n, c.m)
		if !ok {
			t.Error(c)
		}
		expect(t, "PowMod", f, got, c.rest)
		checkPowMod(t, f, c.a, c.n, c.m)
	}
}

// P9.3: powers are products: of all short lists over the least fields.
func TestPowModIsAProduct(t *testing.T) {
	for _, c := range []struct {
		p uint64
		n int
	}{{2, 4}, {3, 3}} {
		f := fieldOf(t, c.p)
		for _, a := range all(c.p, c.n) {
			for _, m := range all(c.p, c.n)[1:] {
				product := restOf(c.p, fpoly.Poly{1}, m)
				for n := range 20 {
					got, ok := fpoly.PowMod(f, a, n, m)
					if !ok {
						t.Fatal(c.p, a, n, m)
					}
					expect(t, "PowMod", f, got, product)
					product = restOf(c.p, productOf(c.p, product, a), m)
				}
			}
		}
	}
}

// P9.3: samples, written in all ways, with exponents on both sides of 0, the least and
// the greatest ones: moduli of degree 0, and 0, among them.
func TestPowModOfSamples(t *testing.T) {
	exponents := []int{0, 1, 2, 3, 4, 5, 63, 64, 1000003, math.MaxInt, math.MaxInt - 1, 1 << 62, -1, -2, math.MinInt, math.MinInt + 1}
	for _, p := range primes() {
		f := fieldOf(t, p)
		for i, a := range samples(p) {
			for k, m := range samples(p) {
				n := exponents[(3*i+5*k)%len(exponents)]
				checkPowMod(t, f, a, n, m)
				checkPowMod(t, f, forms(p, a)[(i+k)%7], n, forms(p, m)[(i+3*k)%7])
			}
			for _, n := range exponents {
				checkPowMod(t, f, a, n, fpoly.Poly{1, 3, 0, 1})
				checkPowMod(t, f, a, n, fpoly.Poly{3 + 7*p})
				checkPowMod(t, f, a, n, nil)
				checkPowMod(t, f, a, n, fpoly.Poly{p, 0})
			}
		}
	}
}

// P9.3: drawn powers.
func TestPowModOfDrawn(t *testing.T) {
	source := rand.New(rand.NewSource(97))
	for _, p := range primes() {
		f := fieldOf(t, p)
		for range 60 {
			n := int(source.Uint64()>>1) >> source.Intn(63)
			checkPowMod(t, f, drawn(source, p, source.Intn(12)), n, drawn(source, p, source.Intn(8)))
		}
		checkPowMod(t, f, drawn(source, p, 90), source.Intn(1000), drawn(source, p, 50))
	}
}

// P9.3: exponents go with sums, and powers with products.
func TestLawsOfPowers(t *testing.T) {
	source := rand.New(rand.NewSource(98))
	for _, p := range primes() {
		f := fieldOf(t, p)
		for range 40 {
			a, b, m := drawn(source, p, source.Intn(9)), drawn(source, p, source.Intn(9)), drawnMonic(source, p, source.Intn(9))
			n, k := source.Intn(1<<30), source.Intn(1<<30)
			power := func(a fpoly.Poly, n int) fpoly.Poly {
				out, ok := fpoly.PowMod(f, a, n, m)
				if !ok {
					t.Fatal(p, a, n, m)
				}
				return out
			}
			expect(t, "a to the n + k", f, power(a, n+k), restOf(p, productOf(p, power(a, n), power(a, k)), m))
			expect(t, "(a b) to the n", f, power(productOf(p, a, b), n), restOf(p, productOf(p, power(a, n), power(b, n)), m))
			expect(t, "(a to the n) to the k", f, power(power(a, n), k), power(a, n*k))
			expect(t, "(a + b) to the p", f, power(sumOf(p, a, b, 1), int(p)), sumOf(p, power(a, int(p)), power(b, int(p)), 1))
		}
	}
}
