package fpoly_test

import (
	"math/rand"
	"slices"
	"testing"

	"quincunx/fpoly"
	"quincunx/gfp"
)

// valueOf sums up the elements times the powers of x.
func valueOf(p uint64, a fpoly.Poly, x uint64) uint64 {
	value, power := uint64(0), uint64(1)
	for _, word := range a {
		value = (value + word%p*power%p) % p
		power = power * (x % p) % p
	}
	return value
}

// derivativeOf puts each element i times to the place ahead.
func derivativeOf(p uint64, a fpoly.Poly) fpoly.Poly {
	out := make(fpoly.Poly, len(a))
	for i, word := range a {
		if i > 0 {
			out[i-1] = uint64(i) % p * (word % p) % p
		}
	}
	return normalOf(p, out)
}

// monicOf is a by its greatest element; 0 of 0.
func monicOf(p uint64, a fpoly.Poly) fpoly.Poly {
	normal := normalOf(p, a)
	if len(normal) == 0 {
		return nil
	}
	return sumOf(p, nil, normal, inverseOf(p, normal[len(normal)-1]))
}

// checkTwo holds what is reckoned of two polynomials against a reckoning of its own.
func checkTwo(t *testing.T, f gfp.Field, a, b fpoly.Poly) {
	t.Helper()
	p := f.P()
	expect(t, "Add", f, fpoly.Add(f, a, b), sumOf(p, a, b, 1))
	expect(t, "Sub", f, fpoly.Sub(f, a, b), sumOf(p, a, b, p-1))
	expect(t, "Mul", f, fpoly.Mul(f, a, b), productOf(p, a, b))
}

// checkOne holds what is reckoned of a polynomial and a word.
func checkOne(t *testing.T, f gfp.Field, a fpoly.Poly, c uint64) {
	t.Helper()
	p := f.P()
	expect(t, "Scale", f, fpoly.Scale(f, a, c), sumOf(p, nil, a, c))
	expect(t, "Monic", f, fpoly.Monic(f, a), monicOf(p, a))
	expect(t, "Derive", f, fpoly.Derive(f, a), derivativeOf(p, a))
	if got := fpoly.Eval(f, a, c); got != valueOf(p, a, c) {
		t.Fatal("Eval", p, a, c, got)
	}
}

// P9.1: answers that are easily reckoned.
func TestArithmetic(t *testing.T) {
	two, three, f, last := fieldOf(t, 2), fieldOf(t, 3), fieldOf(t, 7), fieldOf(t, greatest)
	for i, c := range [][2]fpoly.Poly{
		{fpoly.Mul(two, fpoly.Poly{1, 1}, fpoly.Poly{1, 1}), {1, 0, 1}}, {fpoly.Add(two, fpoly.Poly{1, 1}, fpoly.Poly{0, 1}), {1}}, {fpoly.Add(two, fpoly.Poly{1, 1}, fpoly.Poly{1, 1}), nil},
		{fpoly.Sub(two, fpoly.Poly{1}, fpoly.Poly{0, 1}), {1, 1}}, {fpoly.Add(f, fpoly.Poly{6, 5, 4}, fpoly.Poly{1, 2, 3}), nil}, {fpoly.Add(f, fpoly.Poly{6, 5, 4}, fpoly.Poly{1, 1, 3}), {0, 6}},
		{fpoly.Sub(f, fpoly.Poly{1}, fpoly.Poly{0, 0, 2}), {1, 0, 5}}, {fpoly.Sub(f, nil, fpoly.Poly{1, 2}), {6, 5}}, {fpoly.Mul(f, fpoly.Poly{1, 2, 1}, fpoly.Poly{6, 0, 1}), {6, 5, 0, 2, 1}},
		{fpoly.Mul(f, fpoly.Poly{3}, fpoly.Poly{5, 5}), {1, 1}}, {fpoly.Mul(last, fpoly.Poly{greatest - 1, greatest - 1}, fpoly.Poly{greatest - 1, greatest - 1}), {1, 2, 1}},
		{fpoly.Scale(f, fpoly.Poly{1, 2, 3}, 5), {5, 3, 1}}, {fpoly.Scale(f, fpoly.Poly{1, 2, 3}, 0), nil}, {fpoly.Scale(f, fpoly.Poly{8, 2, 7}, 1), {1, 2}}, {fpoly.Scale(f, fpoly.Poly{1, 2, 3}, 70), nil},
		{fpoly.Scale(f, fpoly.Poly{1, 2, 3}, 12), {5, 3, 1}}, {fpoly.Scale(last, fpoly.Poly{1, 2}, top), {3, 6}}, {fpoly.Monic(f, fpoly.Poly{1, 2, 3}), {5, 3, 1}}, {fpoly.Monic(f, fpoly.Poly{4}), {1}},
		{fpoly.Monic(f, nil), nil}, {fpoly.Monic(f, fpoly.Poly{7, 14}), nil}, {fpoly.Monic(f, fpoly.Poly{1, 10, 7}), {5, 1}}, {fpoly.Monic(two, fpoly.Poly{1, 1, 0}), {1, 1}}, {fpoly.Monic(last, fpoly.Poly{1, 2}), {1 << 30, 1}},
		{fpoly.Derive(two, fpoly.Poly{1, 1, 1, 1}), {1, 0, 1}}, {fpoly.Derive(f, fpoly.Poly{5}), nil}, {fpoly.Derive(f, fpoly.Poly{5, 4}), {4}}, {fpoly.Derive(f, nil), nil}, {fpoly.Derive(f, fpoly.Poly{0, 0, 0, 0, 0, 0, 0, 1}), nil},
		{fpoly.Derive(f, fpoly.Poly{1, 1, 1, 1, 1, 1, 1, 1, 1}), {1, 2, 3, 4, 5, 6, 0, 1}}, {fpoly.Derive(three, fpoly.Poly{1, 0, 0, 2, 0, 0, 1}), nil}, {fpoly.Derive(three, fpoly.Poly{0, 0, 2, 0, 2}), {0, 1, 0, 2}},
	} {
		if !slices.Equal(c[0], c[1]) {
			t.Error(i, c)
		}
	}
}

// P9.1: values that are easily reckoned.
func TestEval(t *testing.T) {
	two, f, last := fieldOf(t, 2), fieldOf(t, 7), fieldOf(t, greatest)
	for i, c := range [][2]uint64{
		{fpoly.Eval(f, fpoly.Poly{1, 2, 1}, 3), 2}, {fpoly.Eval(f, fpoly.Poly{1, 2, 1}, 0), 1}, {fpoly.Eval(f, fpoly.Poly{1, 2, 1}, 7), 1}, {fpoly.Eval(f, fpoly.Poly{1, 2, 1}, 10), 2}, {fpoly.Eval(f, fpoly.Poly{15, 2, 1}, 0), 1},
		{fpoly.Eval(f, fpoly.Poly{1, 2, 1}, 1), 4}, {fpoly.Eval(f, fpoly.Poly{1, 2, 1}, 6), 0}, {fpoly.Eval(f, nil, 3), 0}, {fpoly.Eval(f, fpoly.Poly{}, 0), 0}, {fpoly.Eval(f, fpoly.Poly{7, 7}, 5), 0}, {fpoly.Eval(f, fpoly.Poly{9}, 5), 2},
		{fpoly.Eval(two, fpoly.Poly{1, 1, 1}, 1), 1}, {fpoly.Eval(two, fpoly.Poly{1, 1, 0}, top), 0}, {fpoly.Eval(last, fpoly.Poly{0, 0, 1}, greatest-1), 1}, {fpoly.Eval(last, fpoly.Poly{1, 1}, top), 4},
	} {
		if c[0] != c[1] {
			t.Error(i, c)
		}
	}
}

// P9.1: all pairs of short lists over the least fields, and all words next to their
// elements.
func TestArithmeticOverSmallFields(t *testing.T) {
	for _, c := range []struct {
		p uint64
		n int
	}{{2, 5}, {3, 3}, {5, 2}} {
		f, list := fieldOf(t, c.p), all(c.p, c.n)
		for _, a := range list {
			for _, b := range list {
				checkTwo(t, f, a, b)
			}
			for x := range 3 * c.p {
				checkOne(t, f, a, x)
			}
		}
	}
}

// P9.1: samples over all fields, written in all ways.
func TestArithmeticOfSamples(t *testing.T) {
	for _, p := range primes() {
		f := fieldOf(t, p)
		list := samples(p)
		for i, a := range list {
			for k, b := range list {
				checkTwo(t, f, a, b)
				for n, c := range forms(p, a) {
					checkTwo(t, f, c, forms(p, b)[(i+k+n)%7])
				}
			}
			for _, c := range []uint64{0, 1, 2, 3, p - 1, p, p + 1, 2*p - 1, top / p * p, top} {
				for _, b := range forms(p, a) {
					checkOne(t, f, b, c)
				}
			}
		}
	}
}

// P9.1: drawn polynomials, short ones, and long ones, whose sums are of very many
// products.
func TestArithmeticOfDrawn(t *testing.T) {
	source := rand.New(rand.NewSource(92))
	for _, p := range primes() {
		f := fieldOf(t, p)
		for range 200 {
			a, b := drawn(source, p, source.Intn(14)), drawn(source, p, source.Intn(14))
			checkTwo(t, f, a, b)
			checkOne(t, f, a, drawnWord(source, p))
		}
		long := drawn(source, p, 700)
		checkTwo(t, f, long, drawn(source, p, 300))
		checkTwo(t, f, drawn(source, p, 40), long)
		checkOne(t, f, long, drawnWord(source, p))
	}
}

// P9.1: the greatest elements alone, as long as sums of products are the greatest.
func TestArithmeticOfGreatestElements(t *testing.T) {
	for _, p := range primes() {
		f := fieldOf(t, p)
		for _, n := range []int{1, 2, 3, 4, 5, 6, 7, 8, 9, 64, 500} {
			for _, word := range []uint64{p - 1, 2*p - 1, p/2 + 1} {
				a := slices.Repeat(fpoly.Poly{word}, n)
				checkTwo(t, f, a, a)
				checkTwo(t, f, a, slices.Repeat(fpoly.Poly{p - 1}, n/2+1))
				checkOne(t, f, a, word)
			}
		}
	}
}

// P9.1: products where a factor is 0, and sums with it.
func TestArithmeticOfNoughts(t *testing.T) {
	for _, p := range primes() {
		f := fieldOf(t, p)
		for _, nought := range noughts(p) {
			for _, a := range samples(p) {
				expectNothing(t, "a 0", fpoly.Mul(f, a, nought))
				expectNothing(t, "0 a", fpoly.Mul(f, nought, a))
				expect(t, "a + 0", f, fpoly.Add(f, a, nought), a)
				expect(t, "0 + a", f, fpoly.Add(f, nought, a), a)
				expect(t, "a - 0", f, fpoly.Sub(f, a, nought), a)
				expect(t, "0 - a", f, fpoly.Sub(f, nought, a), sumOf(p, nil, a, p-1))
			}
			checkOne(t, f, nought, 0)
			checkOne(t, f, nought, 3)
			expectNothing(t, "Monic", fpoly.Monic(f, nought))
			expectNothing(t, "Derive", fpoly.Derive(f, nought))
		}
	}
}

// P9.1: powers that are multiples of the prime go, and those next to them stay.
func TestDeriveOfPowers(t *testing.T) {
	for _, p := range []uint64{2, 3, 5, 7, 11, 31, 257} {
		f := fieldOf(t, p)
		for _, times := range []int{1, 2, 3} {
			n := times * int(p)
			power := append(make(fpoly.Poly, n), 1)
			expectNothing(t, "Derive", fpoly.Derive(f, power))
			expect(t, "Derive", f, fpoly.Derive(f, append(power, 1)), append(make(fpoly.Poly, n), 1))
			expect(t, "Derive", f, fpoly.Derive(f, power[1:]), append(make(fpoly.Poly, n-2), p-1))
		}
	}
}
