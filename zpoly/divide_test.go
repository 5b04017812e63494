package zpoly_test

import (
	"math"
	"math/big"
	"math/rand"
	"testing"

	"quincunx/zint"
	"quincunx/zpoly"
)

// checkPseudo holds q and r against what tells them: of each two there are just these.
func checkPseudo(t *testing.T, a, b zpoly.Poly) {
	t.Helper()
	q, r, ok := zpoly.Pseudo(a, b)
	first, second := numbersOf(a), numbersOf(b)
	if len(second) == 0 {
		if ok || len(q) != 0 || len(r) != 0 {
			t.Fatal("by 0", a, b, q, r, ok)
		}
		return
	}
	if !ok || !isNormal(q) || !isNormal(r) || len(r) >= len(second) {
		t.Fatal(a, b, q, r, ok)
	}
	c := big.NewInt(1)
	if steps := len(first) - len(second) + 1; steps > 0 {
		c.Exp(second[len(second)-1], big.NewInt(int64(steps)), nil)
	}
	sum := sumOf(productOf(numbersOf(q), second), numbersOf(r), big.NewInt(1))
	if !sameNumbers(sum, timesOf(first, c)) {
		t.Fatal("q b + r", a, b, q, r)
	}
	if len(first) < len(second) && len(q) != 0 {
		t.Fatal("of a lesser degree", a, b, q)
	}
}

// P10.2: quotients and rests that are easily reckoned.
func TestPseudo(t *testing.T) {
	word := long(false, 0, 1)
	for _, c := range []struct{ a, b, q, r zpoly.Poly }{
		{of(1, 0, 0, 1), of(1, 2), of(1, -2, 4), of(7)}, {of(5), of(1, 2), nil, of(5)}, {of(-1, 0, 1), of(-1, 1), of(1, 1), nil}, {of(-1, 0, 1), of(1, -1), of(-1, -1), nil}, {of(1, 0, 1), of(-1, 1), of(1, 1), of(2)},
		{of(1, 2, 3), of(2), of(4, 8, 12), nil}, {of(1, 2, 3), of(1), of(1, 2, 3), nil}, {of(1, 2, 3), of(-1), of(1, 2, 3), nil}, {of(1, 2), of(-1), of(-1, -2), nil}, {of(7), of(5), of(7), nil}, {of(7), of(-5, 0), of(7), nil},
		{nil, of(5), nil, nil}, {of(0, 0), of(1, 2, 3), nil, nil}, {of(4, 6), of(1, 0, 3), nil, of(4, 6)}, {of(4, 6, 0), of(1, 3), of(6), of(6)}, {of(0, 0, 0, 0, 1), of(1, 0, 3), of(-3, 0, 9), of(3)}, {of(0, 0, 0, 0, 1), of(0, 0, 3), of(0, 0, 9), nil},
		{of(1, 0, 0, 1), of(1, 0, -2), of(0, -2), of(4, 2)}, {zpoly.Poly{small(1), small(1)}, zpoly.Poly{small(1), word}, of(1), zpoly.Poly{long(false, top)}}, {of(2, 1), zpoly.Poly{long(true, 0, 0, 1)}, zpoly.Poly{long(true, 0, 0, 2), long(true, 0, 0, 1)}, nil},
		{of(5, 0, 0, 0, 0, 0, 2), of(0, 0, 0, 4), of(0, 0, 0, 128), of(1280)}, {of(0, 1, 2, 0, 0), of(-3, -1, 0), of(5, -2), of(15)},
	} {
		q, r, ok := zpoly.Pseudo(c.a, c.b)
		if !ok {
			t.Error(c)
		}
		expect(t, "q", q, c.q)
		expect(t, "r", r, c.r)
	}
}

// P10.2: by 0, however it is written, of any polynomial, 0 too.
func TestByNought(t *testing.T) {
	for _, nought := range noughts() {
		for _, a := range samples() {
			checkPseudo(t, a, nought)
			checkExact(t, a, nought)
		}
	}
}

// P10.2: 0 by any other polynomial.
func TestOfNought(t *testing.T) {
	for _, nought := range noughts() {
		for _, b := range samples() {
			checkPseudo(t, nought, b)
			checkExact(t, nought, b)
			if len(numbersOf(b)) == 0 {
				continue
			}
			q, r, ok := zpoly.Pseudo(nought, b)
			exact, isExact := zpoly.Exact(nought, b)
			if !ok || !isExact || len(q)+len(r)+len(exact) != 0 {
				t.Fatal(nought, b, q, r, exact)
			}
		}
	}
}

// P10.2: all pairs of short lists of small numbers, of all degrees.
func TestDivideSmallNumbers(t *testing.T) {
	list, others := append(all(-1, 1, 4), all(-3, 3, 2)...), append(all(-2, 2, 2), all(-1, 1, 3)...)
	for _, a := range list {
		for _, b := range others {
			checkPseudo(t, a, b)
			checkPseudo(t, b, a)
			checkExact(t, a, b)
			checkExact(t, b, a)
		}
	}
}

// P10.2: samples, written in all ways.
func TestDivideSamples(t *testing.T) {
	list := samples()
	for i, a := range list {
		for k, b := range list {
			checkPseudo(t, a, b)
			checkExact(t, a, b)
			first, second := forms(a), forms(b)
			checkPseudo(t, first[(i+k)%len(first)], second[(3*i+k)%len(second)])
			checkExact(t, first[(i+2*k)%len(first)], second[(i+k)%len(second)])
		}
	}
}

// tops holds numbers to stand at a divisor's degree.
func tops() []zint.Int {
	return []zint.Int{small(1), small(-1), small(2), small(-3), small(math.MinInt64), long(false, 0, 1), long(true, top, 5, 0), long(true, 1, 0, 0)}
}

// P10.2: divisors whose number at the degree is 1, -1, below 0 and of several words, by
// all differences of the degrees.
func TestPseudoByTops(t *testing.T) {
	source := rand.New(rand.NewSource(117))
	for _, x := range tops() {
		for degree := range 5 {
			b := append(drawnSmall(source, 4, 9)[:degree], x)
			for n := range 10 {
				checkPseudo(t, drawnSmall(source, n, 99), b)
				checkPseudo(t, drawn(source, n, 2), b)
			}
		}
	}
}

// P10.2: the rest's degree falls by more than one at a step: what is taken away leaves
// noughts, and each of them counts as a step.
func TestPseudoOfNoughtsBetween(t *testing.T) {
	source := rand.New(rand.NewSource(118))
	for _, x := range tops() {
		for gap := range 6 {
			b := append(append(drawnSmall(source, 2, 9), make(zpoly.Poly, gap)...), x)
			for n := range 9 {
				power := append(make(zpoly.Poly, n+len(b)-1), small(1))
				checkPseudo(t, power, b)
				times := append(append(of(1, -2), make(zpoly.Poly, gap)...), x)
				checkPseudo(t, polyOf(sumOf(productOf(numbersOf(times), numbersOf(b)), numbersOf(drawnSmall(source, n%4, 9)), big.NewInt(1))), b)
			}
		}
	}
}

// P10.2: drawn polynomials, short ones, and long ones.
func TestPseudoOfDrawn(t *testing.T) {
	source := rand.New(rand.NewSource(119))
	for range 2000 {
		checkPseudo(t, drawn(source, 9, 3), drawn(source, 6, 3))
	}
	checkPseudo(t, drawnSmall(source, 120, 1<<40), drawnSmall(source, 60, 1<<40))
	checkPseudo(t, drawnSmall(source, 120, 1<<40), drawnSmall(source, 1, 1<<40))
	checkPseudo(t, drawnSmall(source, 50, 9), drawnSmall(source, 51, 9))
}

// checkExact holds Exact against the quotient among fractions.
func checkExact(t *testing.T, a, b zpoly.Poly) {
	t.Helper()
	got, ok := zpoly.Exact(a, b)
	first, second := numbersOf(a), numbersOf(b)
	var want []*big.Int
	isWhole := false
	if len(second) > 0 {
		quotient, rest := divide(fractionsOf(first), fractionsOf(second))
		if len(rest) == 0 {
			want, isWhole = wholesOf(quotient)
		}
	}
	if ok != isWhole {
		t.Fatal(a, b, got, ok)
	}
	expectNumbers(t, "Exact", got, want)
}

// P10.2: quotients that are easily reckoned, and where there is none: as they aren't
// whole, or as there is a rest.
func TestExact(t *testing.T) {
	word := long(false, 0, 1)
	for _, c := range []struct {
		a, b, q zpoly.Poly
		ok      bool
	}{
		{of(-6, 0, 6), of(-2, 2), of(3, 3), true}, {of(1, 1), of(2), nil, false}, {of(2, 4), of(2), of(1, 2), true}, {of(2, 4), of(-2), of(-1, -2), true}, {of(2, 3), of(2), nil, false}, {of(3, 2), of(2), nil, false},
		{of(-1, 0, 1), of(-2, 2), nil, false}, {of(-1, 0, 1), of(1, -1), of(-1, -1), true}, {of(1, 0, 1), of(1, 1), nil, false}, {of(1, 2, 1), of(1, 1), of(1, 1), true}, {of(2, 2, 1), of(1, 1), nil, false}, {of(1, 3, 1), of(1, 1), nil, false},
		{of(6), of(3), of(2), true}, {of(6), of(-4), nil, false}, {of(6), of(-6), of(-1), true}, {of(3), of(6), nil, false}, {of(6), of(3, 1), nil, false}, {of(0), of(3, 1), nil, true}, {nil, of(7), nil, true}, {nil, nil, nil, false}, {of(5), of(0), nil, false},
		{of(1, 1), of(1, 1, 1), nil, false}, {of(1, 1), of(1, 1, 0), of(1), true}, {of(0, 0, 0, 4), of(0, 0, -2), of(0, -2), true}, {of(0, 0, 1, 4), of(0, 0, -2), nil, false}, {of(0, 1, 0, 4), of(0, 0, 2), nil, false}, {of(1, 0, 0, 4), of(0, 0, 2), nil, false},
		{zpoly.Poly{word}, zpoly.Poly{long(true, 1<<32)}, zpoly.Poly{long(true, 1<<32)}, true}, {zpoly.Poly{long(true, 0, 0, 1), word}, zpoly.Poly{long(true, 0, 1), small(1)}, zpoly.Poly{word}, true}, {zpoly.Poly{long(false, 1, 1)}, zpoly.Poly{word}, nil, false},
		{of(math.MinInt64), of(-1), zpoly.Poly{long(false, 1<<63)}, true}, {of(2, 5, 2), of(1, 2), of(2, 1), true}, {of(1, 2), of(2, 5, 2), nil, false}, {of(-2, -5, -2), of(-2, -1), of(1, 2), true},
	} {
		q, ok := zpoly.Exact(c.a, c.b)
		if ok != c.ok {
			t.Error(c, q, ok)
		}
		expect(t, "Exact", q, c.q)
		checkExact(t, c.a, c.b)
	}
}

// P10.2: products by either factor; with one number changed by as little as can be;
// and by twice the factor, where the quotient isn't whole.
func TestExactOfProducts(t *testing.T) {
	source := rand.New(rand.NewSource(120))
	for range 400 {
		a, b := drawn(source, 7, 3), drawn(source, 7, 3)
		product := polyOf(productOf(numbersOf(a), numbersOf(b)))
		checkExact(t, product, a)
		checkExact(t, product, b)
		if q, ok := zpoly.Exact(product, b); len(numbersOf(b)) > 0 && !ok {
			t.Fatal(a, b, q)
		}
		double := polyOf(timesOf(numbersOf(b), big.NewInt(2)))
		checkExact(t, product, double)
		for i := range product {
			other := polyOf(sumOf(numbersOf(product), numbersOf(append(make(zpoly.Poly, i), small(1))), big.NewInt(1)))
			checkExact(t, other, b)
		}
	}
}

// P10.2: divisors whose number at the degree is 1, -1, below 0 and of several words.
func TestExactByTops(t *testing.T) {
	source := rand.New(rand.NewSource(121))
	for _, x := range tops() {
		for degree := range 5 {
			b := append(drawnSmall(source, 4, 9)[:degree], x)
			for n := range 8 {
				q := drawnSmall(source, n, 99)
				product := polyOf(productOf(numbersOf(q), numbersOf(b)))
				got, ok := zpoly.Exact(product, b)
				if !ok {
					t.Fatal(q, b)
				}
				expect(t, "Exact", got, q)
				checkExact(t, append(drawnSmall(source, n, 9), small(5)), b)
			}
		}
	}
}

// P10.2: long polynomials.
func TestExactOfLong(t *testing.T) {
	source := rand.New(rand.NewSource(122))
	a, b := drawnSmall(source, 150, 1<<50), drawnSmall(source, 100, 1<<50)
	product := polyOf(productOf(numbersOf(a), numbersOf(b)))
	if q, ok := zpoly.Exact(product, b); !ok || !zpoly.Same(q, a) {
		t.Fatal(q, ok)
	}
	product[0] = zint.Add(product[0], small(1))
	if q, ok := zpoly.Exact(product, b); ok || len(q) != 0 {
		t.Fatal(q, ok)
	}
}
