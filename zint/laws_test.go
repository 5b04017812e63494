package zint

import (
	"math/rand"
	"testing"
)

func checkRing(t *testing.T, a, b, c Int) {
	t.Helper()
	alike(t, "a + b = b + a", Add(a, b), Add(b, a))
	alike(t, "a b = b a", Mul(a, b), Mul(b, a))
	alike(t, "(a + b) + c = a + (b + c)", Add(Add(a, b), c), Add(a, Add(b, c)))
	alike(t, "(a b) c = a (b c)", Mul(Mul(a, b), c), Mul(a, Mul(b, c)))
	alike(t, "a (b + c) = a b + a c", Mul(a, Add(b, c)), Add(Mul(a, b), Mul(a, c)))
	alike(t, "a - b = a + -b", Sub(a, b), Add(a, Neg(b)))
	alike(t, "(a - b) + b = a", Add(Sub(a, b), b), From(a.A, a.Neg))
	alike(t, "-a b = -(a b)", Mul(Neg(a), b), Neg(Mul(a, b)))
}

// P5.5: sums and products are a commutative ring's.
func TestRing(t *testing.T) {
	list := mixed()
	for i, a := range list {
		for k, b := range list {
			checkRing(t, a, b, list[(3*i+5*k)%len(list)])
		}
	}
	source := rand.New(rand.NewSource(10))
	for range 2000 {
		checkRing(t, drawnAny(source, 5), drawnAny(source, 5), drawnAny(source, 5))
	}
	checkRing(t, drawn(source, 500), drawn(source, 300), drawn(source, 200))
}

// P5.5: 0 and 1, however they are written.
func TestNoughtAndOne(t *testing.T) {
	for _, a := range mixed() {
		normal := From(a.A, a.Neg)
		for _, nought := range noughts() {
			alike(t, "a + 0", Add(a, nought), normal)
			alike(t, "0 + a", Add(nought, a), normal)
			alike(t, "a - 0", Sub(a, nought), normal)
			alike(t, "0 - a", Sub(nought, a), Neg(a))
			alike(t, "a 0", Mul(a, nought), Int{})
			alike(t, "0 a", Mul(nought, a), Int{})
		}
		for n := range 3 {
			alike(t, "a 1", Mul(a, longer(Of(1), n)), normal)
			alike(t, "-1 a", Mul(longer(Of(-1), n), a), Neg(a))
		}
		alike(t, "a - a", Sub(a, a), Int{})
		alike(t, "a + a", Add(a, a), Mul(a, Of(2)))
	}
}

// P5.1, P5.5: powers are products.
func TestPowersAreProducts(t *testing.T) {
	for _, a := range mixed() {
		product := Of(1)
		for n := range 8 {
			power, ok := Pow(a, n)
			if !ok {
				t.Fatal(a, n)
			}
			alike(t, "Pow", power, product)
			product = Mul(product, a)
		}
	}
}

// P5.1, P5.5: order goes with sums, and with signs.
func TestOrder(t *testing.T) {
	source := rand.New(rand.NewSource(11))
	for range 5000 {
		a, b, c := drawnAny(source, 3), drawnAny(source, 3), drawnAny(source, 3)
		order := Cmp(a, b)
		if Cmp(b, a) != -order || Cmp(Neg(b), Neg(a)) != order || Cmp(Add(a, c), Add(b, c)) != order {
			t.Fatal(a, b, c)
		}
		if Sign(Sub(a, b)) != order || Same(a, b) != (order == 0) {
			t.Fatal(a, b)
		}
		if Cmp(Mul(a, c), Mul(b, c)) != order*Sign(c) {
			t.Fatal(a, b, c)
		}
	}
}

// P5.2: a is the quotient times b, and what is left.
func TestQuotientTimesDivisor(t *testing.T) {
	for _, a := range mixed() {
		for _, b := range mixed() {
			if Sign(b) == 0 {
				continue
			}
			for _, divide := range []func(a, b Int) (Int, Int, bool){Quo, Floor, Euclid} {
				q, r, _ := divide(a, b)
				alike(t, "q b + r", Add(Mul(q, b), r), From(a.A, a.Neg))
				if Cmp(Abs(r), Abs(b)) >= 0 {
					t.Fatal("the rest isn't less", a, b, r)
				}
			}
		}
	}
}
