package zpoly_test

import (
	"math"
	"math/big"
	"math/rand"
	"testing"

	"quincunx/zint"
	"quincunx/zpoly"
)

// checkTwo holds what is reckoned of two polynomials against a reckoning of its own.
func checkTwo(t *testing.T, a, b zpoly.Poly) {
	t.Helper()
	first, second := numbersOf(a), numbersOf(b)
	expectNumbers(t, "Add", zpoly.Add(a, b), sumOf(first, second, big.NewInt(1)))
	expectNumbers(t, "Sub", zpoly.Sub(a, b), sumOf(first, second, big.NewInt(-1)))
	expectNumbers(t, "Mul", zpoly.Mul(a, b), productOf(first, second))
}

// P10.1: answers that are easily reckoned.
func TestArithmetic(t *testing.T) {
	word := long(false, 0, 1)
	for _, c := range [][2]zpoly.Poly{
		{zpoly.Mul(of(1, 2), of(3, 0, 1)), of(3, 6, 1, 2)}, {zpoly.Mul(of(1, 1), of(-1, 1)), of(-1, 0, 1)}, {zpoly.Mul(of(-2), of(3, -4)), of(-6, 8)}, {zpoly.Mul(of(0, 0, 1), of(0, 5)), of(0, 0, 0, 5)},
		{zpoly.Mul(of(1), of(7, 8, 9)), of(7, 8, 9)}, {zpoly.Mul(of(1, 0, 0), of(7, 0)), of(7)}, {zpoly.Mul(nil, of(1, 2)), nil}, {zpoly.Mul(of(1, 2), of(0, 0)), nil}, {zpoly.Mul(of(1, 1, 1), of(1, -1)), of(1, 0, 0, -1)},
		{zpoly.Mul(zpoly.Poly{word, word}, zpoly.Poly{word, small(-1)}), zpoly.Poly{long(false, 0, 0, 1), long(false, 0, top), long(true, 0, 1)}}, {zpoly.Mul(of(math.MinInt64), of(2)), zpoly.Poly{long(true, 0, 1)}},
		{zpoly.Add(of(1, 2, 3), of(4, 5)), of(5, 7, 3)}, {zpoly.Add(of(4, 5), of(1, 2, 3)), of(5, 7, 3)}, {zpoly.Add(of(1, 2, 3), of(1, 2, -3)), of(2, 4)}, {zpoly.Add(of(1, 2, 3), of(-1, -2, -3)), nil}, {zpoly.Add(nil, of(1, 0)), of(1)},
		{zpoly.Add(of(0, 0, 1), of(0, 0, -1, 0)), nil}, {zpoly.Add(of(math.MaxInt64, 1), of(math.MaxInt64, -1)), zpoly.Poly{long(false, top-1)}}, {zpoly.Add(zpoly.Poly{long(false, top)}, of(1)), zpoly.Poly{word}},
		{zpoly.Sub(of(1, 2, 3), of(4, 5)), of(-3, -3, 3)}, {zpoly.Sub(of(4, 5), of(1, 2, 3)), of(3, 3, -3)}, {zpoly.Sub(of(1, 2), of(1, 2)), nil}, {zpoly.Sub(nil, of(1, -2)), of(-1, 2)}, {zpoly.Sub(of(1, -2), nil), of(1, -2)},
		{zpoly.Sub(of(5, 7, 3), of(5, 6, 3)), of(0, 1)}, {zpoly.Sub(of(math.MinInt64), of(math.MaxInt64)), zpoly.Poly{long(true, top)}}, {zpoly.Sub(zpoly.Poly{word}, of(1)), zpoly.Poly{long(false, top)}},
		{zpoly.Scale(of(1, -2, 3), small(5)), of(5, -10, 15)}, {zpoly.Scale(of(1, -2, 3), small(0)), nil}, {zpoly.Scale(of(1, -2, 3), long(true, 0)), nil}, {zpoly.Scale(of(1, -2, 0), small(1)), of(1, -2)},
		{zpoly.Scale(of(1, -2, 3), small(-1)), of(-1, 2, -3)}, {zpoly.Scale(of(2, 0, -1), word), zpoly.Poly{long(false, 0, 2), {}, long(true, 0, 1)}}, {zpoly.Scale(nil, word), nil}, {zpoly.Scale(of(0, 0), word), nil},
		{zpoly.Scale(of(math.MinInt64), small(-1)), zpoly.Poly{long(false, 1<<63)}}, {zpoly.Scale(zpoly.Poly{word, small(3)}, long(true, 0, 0, 1)), zpoly.Poly{long(true, 0, 0, 0, 1), long(true, 0, 0, 3)}},
	} {
		expect(t, "as reckoned", c[0], c[1])
	}
}

// P10.1: all pairs of short lists of small numbers.
func TestArithmeticOfSmallNumbers(t *testing.T) {
	list := append(all(-2, 2, 3), all(-1, 1, 4)...)
	for i, a := range list {
		for k, b := range list {
			if (i+k)%3 == 0 {
				checkTwo(t, a, b)
			}
		}
	}
}

// P10.1: samples, written in all ways.
func TestArithmeticOfSamples(t *testing.T) {
	list := samples()
	for i, a := range list {
		for k, b := range list {
			checkTwo(t, a, b)
			first, second := forms(a), forms(b)
			checkTwo(t, first[(i+k)%len(first)], second[(3*i+k)%len(second)])
		}
	}
}

// P10.1: drawn polynomials, short ones, and long ones.
func TestArithmeticOfDrawn(t *testing.T) {
	source := rand.New(rand.NewSource(115))
	for range 2000 {
		checkTwo(t, drawn(source, 9, 3), drawn(source, 9, 3))
	}
	checkTwo(t, drawnSmall(source, 200, math.MaxInt64/2), drawnSmall(source, 60, 9))
	checkTwo(t, drawn(source, 40, 12), drawn(source, 40, 30))
}

// P10.1: multiples by 0, 1, -1, by numbers of several words, and by those that aren't
// normal.
func TestScale(t *testing.T) {
	source := rand.New(rand.NewSource(116))
	list := samples()
	for range 100 {
		list = append(list, drawn(source, 9, 3))
	}
	for _, a := range list {
		for _, c := range append(points(), drawnInt(source, 4)) {
			expectNumbers(t, "Scale", zpoly.Scale(a, c), timesOf(numbersOf(a), valueOf(c)))
		}
		expect(t, "1 a", zpoly.Scale(a, small(1)), a)
		for _, nought := range noughtInts() {
			expectNothing(t, "0 a", zpoly.Scale(a, nought))
		}
	}
}

// P10.1: products where a factor is 0, and sums with it.
func TestArithmeticOfNoughts(t *testing.T) {
	for _, nought := range noughts() {
		for _, a := range samples() {
			expectNothing(t, "a 0", zpoly.Mul(a, nought))
			expectNothing(t, "0 a", zpoly.Mul(nought, a))
			expect(t, "a + 0", zpoly.Add(a, nought), a)
			expect(t, "0 + a", zpoly.Add(nought, a), a)
			expect(t, "a - 0", zpoly.Sub(a, nought), a)
			expectNumbers(t, "0 - a", zpoly.Sub(nought, a), timesOf(numbersOf(a), big.NewInt(-1)))
			expectNothing(t, "a - a", zpoly.Sub(a, a))
		}
		expectNothing(t, "c 0", zpoly.Scale(nought, zint.Of(7)))
	}
}

// P10.1: powers of x, and what makes noughts between.
func TestProductsOfPowers(t *testing.T) {
	for i := range 12 {
		power := append(make(zpoly.Poly, i), small(-3))
		for k := range 12 {
			other := append(make(zpoly.Poly, k), small(5), small(0))
			expect(t, "x to the i, and to the k", zpoly.Mul(power, other), append(make(zpoly.Poly, i+k), small(-15)))
		}
		ones := zpoly.Poly{}
		for range i {
			ones = append(ones, small(1))
		}
		want := append(make(zpoly.Poly, i), small(1))
		want[0] = zint.Sub(want[0], small(1))
		expect(t, "a sum of powers by x - 1", zpoly.Mul(ones, of(-1, 1)), want)
	}
}
