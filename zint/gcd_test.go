package zint

import (
	"math/big"
	"math/rand"
	"testing"
)

// checkXgcd holds Gcd, and Xgcd's three, against what tells them: the one x from 0
// on that is less than b by g, with which y is whole.
func checkXgcd(t *testing.T, a, b Int) {
	t.Helper()
	p, q := valueOf(a), valueOf(b)
	gcd := new(big.Int).GCD(nil, nil, new(big.Int).Abs(p), new(big.Int).Abs(q))
	expect(t, "Gcd", Gcd(a, b), gcd)
	g, x, y := Xgcd(a, b)
	expect(t, "Xgcd", g, gcd)
	if !isNormal(x) || !isNormal(y) {
		t.Fatal("Xgcd of", a, b, "isn't normal:", x, y)
	}
	sum := new(big.Int).Mul(valueOf(x), p)
	sum.Add(sum, new(big.Int).Mul(valueOf(y), q))
	if sum.Cmp(gcd) != 0 {
		t.Fatalf("Xgcd of %.80s, %.80s: x a + y b isn't g", p.Text(10), q.Text(10))
	}
	if q.Sign() == 0 {
		expect(t, "x", x, big.NewInt(int64(p.Sign())))
		expect(t, "y", y, new(big.Int))
		return
	}
	bound := new(big.Int).Quo(q, gcd)
	if valueOf(x).Sign() < 0 || valueOf(x).CmpAbs(bound) >= 0 {
		t.Fatalf("Xgcd of %.80s, %.80s: x isn't the least", p.Text(10), q.Text(10))
	}
}

// P5.3: Xgcd of numbers that are easily reckoned.
func TestXgcd(t *testing.T) {
	for _, c := range [][5]int64{
		{4, 6, 2, 2, -1}, {6, 4, 2, 1, -1}, {-4, 6, 2, 1, 1}, {4, -6, 2, 2, 1}, {-4, -6, 2, 1, -1},
		{0, 5, 5, 0, 1}, {0, -5, 5, 0, -1}, {5, 0, 5, 1, 0}, {-5, 0, 5, -1, 0}, {0, 0, 0, 0, 0},
		{10, 5, 5, 0, 1}, {-10, 5, 5, 0, 1}, {10, -5, 5, 0, -1}, {-10, -5, 5, 0, -1}, {5, 5, 5, 0, 1}, {5, -5, 5, 0, -1},
		{5, 10, 5, 1, 0}, {-5, 10, 5, 1, 1}, {5, -10, 5, 1, 0}, {-5, -10, 5, 1, -1},
		{7, 1, 1, 0, 1}, {7, -1, 1, 0, -1}, {1, 7, 1, 1, 0}, {-1, 7, 1, 6, 1}, {3, -7, 1, 5, 2}, {1, 1, 1, 0, 1},
	} {
		g, x, y := Xgcd(Of(c[0]), Of(c[1]))
		if !Same(g, Of(c[2])) || !Same(x, Of(c[3])) || !Same(y, Of(c[4])) {
			t.Error(c, Print(g), Print(x), Print(y))
		}
	}
}

// P5.3: all small numbers: no lesser x from 0 on serves.
func TestXgcdOfSmallNumbers(t *testing.T) {
	for a := int64(-40); a <= 40; a++ {
		for b := int64(-40); b <= 40; b++ {
			checkXgcd(t, Of(a), Of(b))
			if b != 0 {
				checkLeast(t, a, b)
			}
		}
	}
}

func checkLeast(t *testing.T, a, b int64) {
	t.Helper()
	g, x, _ := Xgcd(Of(a), Of(b))
	gcd, _ := Small(g)
	least := int64(0)
	for (gcd-least*a)%b != 0 {
		least++
	}
	if !Same(x, Of(least)) {
		t.Fatal(a, b, Print(x), least)
	}
}

// P5.3: samples, normal and not, of each sign.
func TestXgcdOfSamples(t *testing.T) {
	for _, a := range mixed() {
		for _, b := range mixed() {
			checkXgcd(t, a, b)
		}
	}
}

// P5.3: b 0, a 0, and both, however they are written.
func TestXgcdOfNought(t *testing.T) {
	for _, a := range mixed() {
		for _, nought := range noughts() {
			g, x, y := Xgcd(a, nought)
			alike(t, "g", g, Abs(a))
			alike(t, "x", x, Of(int64(valueOf(a).Sign())))
			alike(t, "y", y, Int{})
			g, x, y = Xgcd(nought, a)
			alike(t, "g", g, Abs(a))
			alike(t, "x", x, Int{})
			alike(t, "y", y, Of(int64(valueOf(a).Sign())))
		}
	}
}

// P5.3: b divides a: x is 0.
func TestXgcdOfMultiples(t *testing.T) {
	source := rand.New(rand.NewSource(6))
	for range 1000 {
		b := drawn(source, 1+source.Intn(4))
		a := Mul(b, drawnAny(source, 4))
		g, x, y := Xgcd(a, b)
		alike(t, "g", g, Abs(b))
		alike(t, "x", x, Int{})
		alike(t, "y", y, Of(int64(valueOf(b).Sign())))
		checkXgcd(t, b, a)
	}
}

// P5.3: numbers with divisors of many lengths in common.
func TestXgcdOfCommonDivisors(t *testing.T) {
	source := rand.New(rand.NewSource(7))
	for range 3000 {
		common := drawn(source, 1+source.Intn(6))
		a := Mul(common, drawn(source, 1+source.Intn(6)))
		b := Mul(common, drawn(source, 1+source.Intn(6)))
		checkXgcd(t, a, b)
		checkXgcd(t, a, Add(a, common))
		checkXgcd(t, a, common)
		checkXgcd(t, common, a)
	}
}

// P5.3: numbers that lie next to one another, with nothing in common.
func TestXgcdOfNeighbours(t *testing.T) {
	for _, a := range mixed() {
		for d := int64(-2); d <= 2; d++ {
			b := Add(a, Of(d))
			checkXgcd(t, a, b)
			checkXgcd(t, Mul(a, b), Mul(b, Add(b, Of(1))))
			checkXgcd(t, Neg(a), b)
		}
	}
}

// P5.3: numbers whose Euclid's way is the longest, and such as have great
// quotients on it.
func TestXgcdOfLongWays(t *testing.T) {
	a, b := Of(0), Of(1)
	for n := range 1500 {
		a, b = b, Add(a, b)
		if n%7 == 0 || n < 200 {
			checkXgcd(t, a, b)
			checkXgcd(t, Neg(b), a)
			checkXgcd(t, Mul(a, Of(-12345678901)), Mul(b, Of(12345678901)))
		}
	}
	for _, quotient := range []Int{Of(1 << 31), Of(1 << 32), Of(1<<32 + 1), From([]uint64{top}, false), From([]uint64{0, 1}, false), From([]uint64{5, 0, 9}, false)} {
		a, b = Of(0), Of(1)
		for range 40 {
			a, b = b, Add(a, Mul(b, quotient))
			checkXgcd(t, a, b)
			checkXgcd(t, b, Neg(a))
		}
	}
}

// P5.3: long numbers, one of them much longer too.
func TestXgcdOfManyWords(t *testing.T) {
	source := rand.New(rand.NewSource(8))
	for _, size := range [][2]int{{50, 50}, {300, 299}, {299, 300}, {1000, 1000}, {700, 20}, {20, 700}, {5000, 2}, {2, 5000}, {5000, 1}, {1, 5000}} {
		a, b := drawn(source, size[0]), drawn(source, size[1])
		checkXgcd(t, a, b)
		common := drawn(source, 40)
		checkXgcd(t, Mul(a, common), Mul(b, common))
	}
}
