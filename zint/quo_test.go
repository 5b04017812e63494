package zint

import (
	"math/big"
	"math/rand"
	"testing"
)

// floorOf is the quotient, rounded down, and what is left: quotients of both
// numbers with their signs turned are the same, so that the divisor is above 0.
func floorOf(x, y *big.Int) (*big.Int, *big.Int) {
	if y.Sign() > 0 {
		return new(big.Int).DivMod(x, y, new(big.Int))
	}
	q, r := floorOf(new(big.Int).Neg(x), new(big.Int).Neg(y))
	return q, r.Neg(r)
}

// roundOf is the greatest whole number that isn't above x by y and a half.
func roundOf(x, y *big.Int) *big.Int {
	twice := new(big.Int).Add(y, y)
	q, _ := floorOf(new(big.Int).Add(new(big.Int).Add(x, x), y), twice)
	return q
}

// checkQuotients holds all divisions of a by b against a reckoning of their own.
func checkQuotients(t *testing.T, a, b Int) {
	t.Helper()
	x, y := valueOf(a), valueOf(b)
	if y.Sign() == 0 {
		checkNoQuotients(t, a, b)
		return
	}
	q, r, ok := Quo(a, b)
	wantQ, wantR := new(big.Int).QuoRem(x, y, new(big.Int))
	expectBoth(t, "Quo", q, r, ok, wantQ, wantR)
	isExact := wantR.Sign() == 0
	exact, isOk := Exact(a, b)
	if isOk != isExact {
		t.Fatal("Exact", a, b, isOk)
	}
	if isExact {
		expect(t, "Exact", exact, wantQ)
	} else {
		expectNothing(t, "Exact", isOk, exact)
	}
	q, r, ok = Floor(a, b)
	wantQ, wantR = floorOf(x, y)
	expectBoth(t, "Floor", q, r, ok, wantQ, wantR)
	q, r, ok = Euclid(a, b)
	wantQ, wantR = new(big.Int).DivMod(x, y, new(big.Int))
	expectBoth(t, "Euclid", q, r, ok, wantQ, wantR)
	q, ok = Round(a, b)
	expectBoth(t, "Round", q, Int{}, ok, roundOf(x, y), new(big.Int))
}

func expectBoth(t *testing.T, call string, q, r Int, ok bool, wantQ, wantR *big.Int) {
	t.Helper()
	if !ok {
		t.Fatal(call, "is false")
	}
	expect(t, call, q, wantQ)
	expect(t, call+"'s rest", r, wantR)
}

// checkNoQuotients fails unless each division by b, that is 0, is nothing.
func checkNoQuotients(t *testing.T, a, b Int) {
	t.Helper()
	q, r, ok := Quo(a, b)
	expectNothing(t, "Quo", ok, q, r)
	q, r, ok = Floor(a, b)
	expectNothing(t, "Floor", ok, q, r)
	q, r, ok = Euclid(a, b)
	expectNothing(t, "Euclid", ok, q, r)
	q, ok = Round(a, b)
	expectNothing(t, "Round", ok, q)
	q, ok = Exact(a, b)
	expectNothing(t, "Exact", ok, q)
}

// P5.2: each pair of signs, with something left and without.
func TestPlainQuotients(t *testing.T) {
	for _, c := range []struct{ a, b, quo, left, floor, above, euclid, rest, round int64 }{
		{7, 2, 3, 1, 3, 1, 3, 1, 4},
		{-7, 2, -3, -1, -4, 1, -4, 1, -3},
		{7, -2, -3, 1, -4, -1, -3, 1, -3},
		{-7, -2, 3, -1, 3, -1, 4, 1, 4},
		{6, 2, 3, 0, 3, 0, 3, 0, 3},
		{-6, 2, -3, 0, -3, 0, -3, 0, -3},
		{6, -2, -3, 0, -3, 0, -3, 0, -3},
		{-6, -2, 3, 0, 3, 0, 3, 0, 3},
		{0, 5, 0, 0, 0, 0, 0, 0, 0},
		{0, -5, 0, 0, 0, 0, 0, 0, 0},
		{3, 7, 0, 3, 0, 3, 0, 3, 0},
		{-3, 7, 0, -3, -1, 4, -1, 4, 0},
		{3, -7, 0, 3, -1, -4, 0, 3, 0},
		{-3, -7, 0, -3, 0, -3, 1, 4, 0},
		{5, 2, 2, 1, 2, 1, 2, 1, 3},
		{-5, 2, -2, -1, -3, 1, -3, 1, -2},
	} {
		a, b := Of(c.a), Of(c.b)
		q, r, ok := Quo(a, b)
		expectBoth(t, "Quo", q, r, ok, big.NewInt(c.quo), big.NewInt(c.left))
		q, r, ok = Floor(a, b)
		expectBoth(t, "Floor", q, r, ok, big.NewInt(c.floor), big.NewInt(c.above))
		q, r, ok = Euclid(a, b)
		expectBoth(t, "Euclid", q, r, ok, big.NewInt(c.euclid), big.NewInt(c.rest))
		q, ok = Round(a, b)
		expectBoth(t, "Round", q, Int{}, ok, big.NewInt(c.round), new(big.Int))
		q, ok = Exact(a, b)
		if ok != (c.left == 0) || ok && !Same(q, Of(c.quo)) {
			t.Error("Exact", c, q, ok)
		}
	}
}

// P5.2: all small numbers, and all samples, by one another.
func TestQuotients(t *testing.T) {
	for a := int64(-40); a <= 40; a++ {
		for b := int64(-20); b <= 20; b++ {
			checkQuotients(t, Of(a), Of(b))
		}
	}
	for _, a := range mixed() {
		for _, b := range mixed() {
			checkQuotients(t, a, b)
		}
	}
}

// P5.2: numbers that are drawn, and multiples, and those next to them.
func TestQuotientsOfMultiples(t *testing.T) {
	source := rand.New(rand.NewSource(3))
	for range 2000 {
		a, b := drawnAny(source, 5), drawn(source, 1+source.Intn(3))
		checkQuotients(t, a, b)
		product := Mul(a, b)
		for d := int64(-1); d <= 1; d++ {
			checkQuotients(t, Add(product, Of(d)), b)
		}
	}
	a, b := drawn(source, 700), drawn(source, 300)
	checkQuotients(t, a, b)
	checkQuotients(t, Mul(a, b), b)
	checkQuotients(t, b, a)
}

// P5.2: quotients just between two whole numbers, and next to these, above and
// below 0.
func TestRoundOfHalves(t *testing.T) {
	for _, c := range [][3]int64{
		{1, 2, 1}, {-1, 2, 0}, {1, -2, 0}, {-1, -2, 1}, {3, 2, 2}, {-3, 2, -1}, {3, -2, -1}, {-3, -2, 2},
		{9, 6, 2}, {-9, 6, -1}, {8, 6, 1}, {10, 6, 2}, {-8, 6, -1}, {-10, 6, -2},
	} {
		if got, ok := Round(Of(c[0]), Of(c[1])); !ok || !Same(got, Of(c[2])) {
			t.Error(c, got, ok)
		}
	}
	source := rand.New(rand.NewSource(4))
	for range 2000 {
		half, odd := drawn(source, 1+source.Intn(3)), Add(Mul(drawnAny(source, 3), Of(2)), Of(1))
		product, divisor := Mul(half, odd), Mul(half, Of(2))
		for d := int64(-1); d <= 1; d++ {
			checkQuotients(t, Add(product, Of(d)), divisor)
			checkQuotients(t, Add(product, Of(d)), Neg(divisor))
		}
		got, _ := Round(product, divisor)
		alike(t, "the greater one of two", Mul(got, Of(2)), Add(odd, Of(1)))
	}
}

// P5.2: by 0 there is nothing.
func TestQuotientsByNought(t *testing.T) {
	for _, a := range mixed() {
		for _, b := range noughts() {
			checkNoQuotients(t, a, b)
		}
	}
}
