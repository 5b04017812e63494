package zpoly_test

import (
	"math"
	"math/big"
	"math/rand"
	"slices"
	"testing"

	"quincunx/zint"
	"quincunx/zpoly"
)

// checkContent holds the content and the primitive part.
func checkContent(t *testing.T, a zpoly.Poly) {
	t.Helper()
	expectInt(t, "Content", zpoly.Content(a), contentOf(numbersOf(a)))
	expectNumbers(t, "Primitive", zpoly.Primitive(a), primitiveOf(numbersOf(a)))
}

// P10.3: contents and primitive parts that are easily told.
func TestContentAndPrimitive(t *testing.T) {
	word := long(false, 0, 1)
	for _, c := range []struct {
		a         zpoly.Poly
		content   zint.Int
		primitive zpoly.Poly
	}{
		{nil, zint.Int{}, nil}, {of(0), zint.Int{}, nil}, {of(0, 0, 0), zint.Int{}, nil}, {zpoly.Poly{long(true, 0), long(true)}, zint.Int{}, nil}, {of(-4), small(4), of(1)}, {of(4), small(4), of(1)}, {of(1), small(1), of(1)}, {of(-1), small(1), of(1)},
		{of(-6, 9, 0, 12), small(3), of(-2, 3, 0, 4)}, {of(4, -6), small(2), of(-2, 3)}, {of(-4, -6), small(2), of(2, 3)}, {of(-4, 6, 0), small(2), of(-2, 3)}, {of(0, -5), small(5), of(0, 1)}, {of(0, 0, 7, 0, -7), small(7), of(0, 0, -1, 0, 1)},
		{of(2, 3), small(1), of(2, 3)}, {of(6, 10, 15), small(1), of(6, 10, 15)}, {of(6, 10, -15), small(1), of(-6, -10, 15)}, {of(12, 18, -30), small(6), of(-2, -3, 5)}, {of(math.MinInt64), long(false, 1<<63), of(1)}, {of(math.MinInt64, math.MinInt64), long(false, 1<<63), of(1, 1)},
		{zpoly.Poly{long(true, 0, 6), long(false, 0, 0, 4)}, long(false, 0, 2), zpoly.Poly{small(-3), long(false, 0, 2)}}, {zpoly.Poly{word, small(1)}, small(1), zpoly.Poly{word, small(1)}}, {zpoly.Poly{word, long(true, 0, 3)}, word, of(-1, 3)},
		{zpoly.Poly{long(true, 0, 0, 1, 0)}, long(false, 0, 0, 1), of(1)}, {zpoly.Poly{long(false, 1, 1), long(false, 0, 1)}, small(1), zpoly.Poly{long(false, 1, 1), word}}, {of(1, 1, 0, 5), small(1), of(1, 1, 0, 5)}, {of(0, 3, 2), small(1), of(0, 3, 2)},
	} {
		expectInt(t, "Content", zpoly.Content(c.a), valueOf(c.content))
		expect(t, "Primitive", zpoly.Primitive(c.a), c.primitive)
	}
}

// P10.3: samples, lists of small numbers and drawn ones, with a common divisor too.
func TestContentOfSamples(t *testing.T) {
	source := rand.New(rand.NewSource(123))
	list := slices.Concat(samples(), noughts(), all(-3, 3, 3), all(-6, 6, 2))
	for _, a := range list {
		checkContent(t, a)
		for _, b := range forms(a) {
			checkContent(t, b)
		}
	}
	for range 1000 {
		a := drawn(source, 9, 4)
		checkContent(t, a)
		checkContent(t, polyOf(timesOf(numbersOf(a), valueOf(drawnInt(source, 3)))))
	}
}

// P10.3: the content is what all numbers have in common, the last one and the first one
// too: any two may have more.
func TestContentOfAllNumbers(t *testing.T) {
	factors := []int64{2, 3, 5, 7}
	for missing := range factors {
		for at := range 6 {
			a := zpoly.Poly{}
			for i := range 6 {
				x := int64(210)
				if i == at {
					x /= factors[missing]
				}
				a = append(a, small(-x))
			}
			expectInt(t, "Content", zpoly.Content(a), big.NewInt(210/factors[missing]))
			checkContent(t, a)
		}
	}
}

// checkGcd holds the greatest common divisor, in both orders.
func checkGcd(t *testing.T, a, b zpoly.Poly) {
	t.Helper()
	want := gcdOf(numbersOf(a), numbersOf(b))
	expectNumbers(t, "Gcd", zpoly.Gcd(a, b), want)
	expectNumbers(t, "Gcd, the other way round", zpoly.Gcd(b, a), want)
}

// P10.3: divisors that are easily told.
func TestGcd(t *testing.T) {
	word := long(false, 0, 1)
	for _, c := range []struct{ a, b, g zpoly.Poly }{
		{of(-6, 0, 6), of(4, 4), of(2, 2)}, {of(2, 3, 1), of(1, 2, 1), of(1, 1)}, {of(5), of(7), of(1)}, {nil, of(-4), of(4)}, {nil, nil, nil}, {of(1, 0, 1), of(1, 1), of(1)}, {nil, of(4, -6), of(-4, 6)}, {of(0, 0), of(-4, 6, 0), of(-4, 6)},
		{of(1, 2), of(-1, -2), of(1, 2)}, {of(-1, -2), of(-1, -2), of(1, 2)}, {of(-6, 4), of(6, -4), of(-6, 4)}, {of(-12), of(18), of(6)}, {of(12), of(18, 0), of(6)}, {of(-12), of(-12), of(12)}, {of(6), of(4, 2), of(2)}, {of(6), of(4, 9), of(1)},
		{of(2, 4), of(6, 6), of(2)}, {of(4, 6), of(10, 0, 4), of(2)}, {of(1, 2), of(2, 4), of(1, 2)}, {of(2, 4), of(3, 6), of(1, 2)}, {of(2, 4), of(1, 3, 2), of(1, 2)}, {of(-1, 0, 1), of(1, -1), of(-1, 1)}, {of(0, 0, 6), of(0, 4, 4), of(0, 2)},
		{of(0, 0, 0, 1), of(0, 0, -1, 0), of(0, 0, 1)}, {of(1, 1), of(2, 1), of(1)}, {of(1, 2), of(2, 1), of(1)}, {of(0, 1), of(1), of(1)}, {of(0, 1), of(-1), of(1)}, {of(0, 3), of(-3), of(3)}, {of(-1, 0, 0, 0, 1), of(-1, 0, 0, 0, 0, 0, 1), of(-1, 0, 1)},
		{of(4, 4, 1), of(2, 1), of(2, 1)}, {of(4, 4, 1), of(4, 2), of(2, 1)}, {of(8, 8, 2), of(4, 2), of(4, 2)}, {of(0, 2, 2), of(0, 3, 3), of(0, 1, 1)}, {zpoly.Poly{word, word}, zpoly.Poly{{}, long(true, 0, 3), long(true, 0, 3)}, zpoly.Poly{word, word}},
		{zpoly.Poly{small(1), word}, zpoly.Poly{small(2), long(false, 0, 2)}, zpoly.Poly{small(1), word}}, {zpoly.Poly{long(true, 0, 0, 1), small(1)}, zpoly.Poly{word, small(1)}, of(1)},
		{zpoly.Poly{long(true, 0, 0, 1), {}, small(1)}, zpoly.Poly{word, small(1)}, zpoly.Poly{word, small(1)}}, {of(-5, 2, 8, -3, -3, 0, 1, 0, 1), of(21, -9, -4, 0, 5, 0, 3), of(1)},
	} {
		expect(t, "Gcd", zpoly.Gcd(c.a, c.b), c.g)
		expect(t, "Gcd, the other way round", zpoly.Gcd(c.b, c.a), c.g)
		checkGcd(t, c.a, c.b)
	}
}

// P10.3: with 0, however it is written: the other one, with a number above 0 at its
// degree.
func TestGcdWithNought(t *testing.T) {
	for _, nought := range noughts() {
		for _, a := range samples() {
			numbers := numbersOf(a)
			want := timesOf(primitiveOf(numbers), contentOf(numbers))
			expectNumbers(t, "Gcd with 0", zpoly.Gcd(a, nought), want)
			expectNumbers(t, "Gcd of 0", zpoly.Gcd(nought, a), want)
		}
	}
}

// P10.3: all pairs of short lists of small numbers.
func TestGcdOfSmallNumbers(t *testing.T) {
	for _, list := range [][]zpoly.Poly{all(-2, 2, 3), all(-1, 1, 4), all(-6, 6, 2), all(-12, 12, 1)} {
		for i, a := range list {
			for k, b := range list[i:] {
				if i%7 == 0 || k%7 == 0 {
					checkGcd(t, a, b)
				}
			}
		}
	}
}

// P10.3: samples, written in all ways.
func TestGcdOfSamples(t *testing.T) {
	list := samples()
	for i, a := range list {
		for k, b := range list {
			checkGcd(t, a, b)
			first, second := forms(a), forms(b)
			checkGcd(t, first[(i+k)%len(first)], second[(3*i+k)%len(second)])
		}
	}
}

// P10.3: where one divides the other, where both are the same, or the same but for a
// sign, and where only the contents have something in common.
func TestGcdOfDivisors(t *testing.T) {
	source := rand.New(rand.NewSource(124))
	for range 300 {
		a, b := drawn(source, 5, 2), drawn(source, 5, 2)
		numbers := numbersOf(a)
		positive := timesOf(primitiveOf(numbers), contentOf(numbers))
		expectNumbers(t, "Gcd of a, a b", zpoly.Gcd(a, polyOf(productOf(numbers, numbersOf(b)))), positive)
		expectNumbers(t, "Gcd of a b, a", zpoly.Gcd(polyOf(productOf(numbers, numbersOf(b))), a), positive)
		expectNumbers(t, "Gcd of a, a", zpoly.Gcd(a, a), positive)
		expectNumbers(t, "Gcd of a, -a", zpoly.Gcd(a, polyOf(timesOf(numbers, big.NewInt(-1)))), positive)
		x, y := valueOf(drawnInt(source, 2)), valueOf(drawnInt(source, 2))
		one := timesOf([]*big.Int{big.NewInt(1), big.NewInt(0), big.NewInt(1)}, x)
		other := timesOf([]*big.Int{big.NewInt(-2), big.NewInt(1)}, y)
		if len(one)*len(other) > 0 {
			expectNumbers(t, "Gcd of contents", zpoly.Gcd(polyOf(one), polyOf(other)), []*big.Int{new(big.Int).GCD(nil, nil, x.Abs(x), y.Abs(y))})
		}
	}
}

// P10.3: drawn polynomials with a common factor, of all degrees, and multiples of them.
func TestGcdOfProducts(t *testing.T) {
	source := rand.New(rand.NewSource(125))
	for range 1500 {
		a, b, c := drawnSmall(source, source.Intn(5), 9), drawnSmall(source, source.Intn(5), 9), drawnSmall(source, source.Intn(4), 9)
		x, y := valueOf(drawnInt(source, 1)), valueOf(drawnInt(source, 2))
		first := timesOf(productOf(numbersOf(a), numbersOf(c)), x)
		second := timesOf(productOf(numbersOf(b), numbersOf(c)), y)
		checkGcd(t, polyOf(first), polyOf(second))
	}
	for range 60 {
		a, b, c := drawn(source, 5, 3), drawn(source, 5, 3), drawn(source, 4, 3)
		checkGcd(t, polyOf(productOf(numbersOf(a), numbersOf(c))), polyOf(productOf(numbersOf(b), numbersOf(c))))
	}
}

// P10.3: what is 0 by a prime, at the degree or all over but there, and what is the
// same by it, tells nothing of the whole numbers: for small primes and the greatest
// ones.
func TestGcdWhereAPrimeMisleads(t *testing.T) {
	source := rand.New(rand.NewSource(126))
	for _, word := range primes() {
		p := int64(word)
		for _, c := range [][2]zpoly.Poly{
			{of(1, p), of(1, p)}, {of(1, p), of(-1, p)}, {of(0, 1), of(p, 1)}, {of(0, 1), of(0, p, 1)}, {of(1, 1), of(p+1, 1)}, {of(1, p), of(1)}, {of(1, p), nil}, {of(0, p), of(1, p)}, {of(1, 0, p), of(1, p)}, {of(p, 1), of(p, 1)},
			{of(1, p, p), of(0, 1)}, {of(p), of(p, p)}, {of(p), of(1, p)}, {of(1), of(1, p)}, {of(p, p, 1), of(p, 1)}, {of(-1, 0, p*3), of(1, 0, 0, -2*p)}, {of(1, 1), of(1, 1+p, p)}, {of(2, p), of(4, 4*p, 2*p, 5)},
		} {
			checkGcd(t, c[0], c[1])
		}
		for range 20 {
			a, b, c := drawnSmall(source, 3, 9), drawnSmall(source, 2, 9), drawnSmall(source, source.Intn(3), 9)
			a[3], b[2] = small(p), small(-2*p)
			c = append(c, small(p*(source.Int63n(3)-1)))
			checkGcd(t, polyOf(productOf(numbersOf(a), numbersOf(c))), polyOf(productOf(numbersOf(b), numbersOf(c))))
			checkGcd(t, a, polyOf(productOf(numbersOf(b), numbersOf(c))))
		}
	}
}

// P10.3: factors that come more than once, as derivatives tell them.
func TestGcdWithDerivative(t *testing.T) {
	source := rand.New(rand.NewSource(127))
	for range 100 {
		a, b := drawnSmall(source, 1+source.Intn(3), 5), drawnSmall(source, 1+source.Intn(3), 5)
		square := productOf(productOf(numbersOf(a), numbersOf(a)), numbersOf(b))
		g := zpoly.Gcd(polyOf(square), polyOf(derivativeOf(square)))
		expectNumbers(t, "Gcd", g, gcdOf(square, derivativeOf(square)))
		if _, ok := zpoly.Exact(g, zpoly.Primitive(a)); !ok {
			t.Fatal("a divides both", a, b, g)
		}
	}
}

// P10.3: longer polynomials, with a common divisor that is known, and without one.
func TestGcdOfLong(t *testing.T) {
	source := rand.New(rand.NewSource(128))
	for range 3 {
		a, b, c := drawnSmall(source, 20, 1<<20), drawnSmall(source, 22, 1<<20), drawnSmall(source, 12, 1<<20)
		g := zpoly.Gcd(polyOf(productOf(numbersOf(a), numbersOf(c))), polyOf(productOf(numbersOf(b), numbersOf(c))))
		expectNumbers(t, "Gcd", g, productOf(gcdOf(numbersOf(a), numbersOf(b)), timesOf(primitiveOf(numbersOf(c)), contentOf(numbersOf(c)))))
		checkGcd(t, a, b)
	}
}
