package rat_test

import (
	"math/rand"
	"testing"

	"quincunx/rat"
	"quincunx/zint"
)

func checkField(t *testing.T, a, b, c rat.Rat) {
	t.Helper()
	alike(t, "a + b = b + a", rat.Add(a, b), rat.Add(b, a))
	alike(t, "a b = b a", rat.Mul(a, b), rat.Mul(b, a))
	alike(t, "(a + b) + c = a + (b + c)", rat.Add(rat.Add(a, b), c), rat.Add(a, rat.Add(b, c)))
	alike(t, "(a b) c = a (b c)", rat.Mul(rat.Mul(a, b), c), rat.Mul(a, rat.Mul(b, c)))
	alike(t, "a (b + c) = a b + a c", rat.Mul(a, rat.Add(b, c)), rat.Add(rat.Mul(a, b), rat.Mul(a, c)))
	alike(t, "a - b = a + -b", rat.Sub(a, b), rat.Add(a, rat.Neg(b)))
	alike(t, "-a b = -(a b)", rat.Mul(rat.Neg(a), b), rat.Neg(rat.Mul(a, b)))
	quotient, ok := rat.Quo(a, b)
	if ok != (rat.Sign(b) != 0) {
		t.Fatal(a, b, ok)
	}
	if ok {
		alike(t, "a by b, b times", rat.Mul(quotient, b), normalOf(t, a))
		back, _ := rat.Quo(rat.Mul(a, b), b)
		alike(t, "a b by b", back, normalOf(t, a))
	}
}

// normalOf is a's normal form, of a number whose D may be 0.
func normalOf(t *testing.T, a rat.Rat) rat.Rat {
	t.Helper()
	if zint.Sign(a.D) == 0 {
		return over(0, 1)
	}
	made, ok := rat.Make(a.N, a.D)
	if !ok {
		t.Fatal(a)
	}
	return made
}

// P7.3: fractions are a field.
func TestField(t *testing.T) {
	list := mixed()
	for i, a := range list {
		for k, b := range list {
			checkField(t, a, b, list[(3*i+5*k)%len(list)])
		}
	}
	source := rand.New(rand.NewSource(74))
	for range 2000 {
		checkField(t, drawnAny(source, 3), drawnAny(source, 3), drawnAny(source, 3))
	}
}

// P7.3: 0 and 1, however they are written, and what comes to them.
func TestNoughtAndOne(t *testing.T) {
	ones := append(forms(over(1, 1)), over(1, 1))
	for _, a := range mixed() {
		normal := normalOf(t, a)
		for _, nought := range noughts() {
			alike(t, "a + 0", rat.Add(a, nought), normal)
			alike(t, "a 0", rat.Mul(a, nought), over(0, 1))
		}
		for _, one := range ones {
			alike(t, "a 1", rat.Mul(a, one), normal)
			alike(t, "1 a", rat.Mul(one, a), normal)
			quotient, _ := rat.Quo(a, one)
			alike(t, "a by 1", quotient, normal)
		}
		alike(t, "a - a", rat.Sub(a, a), over(0, 1))
		alike(t, "a + a", rat.Add(a, a), rat.Mul(a, over(2, 1)))
	}
	for _, a := range others() {
		for _, one := range ones {
			inverse, ok := rat.Quo(one, a)
			if !ok {
				t.Fatal(a)
			}
			alike(t, "an inverse", rat.Mul(inverse, a), over(1, 1))
			power, _ := rat.Pow(a, -1)
			alike(t, "to the -1", power, inverse)
		}
		quotient, _ := rat.Quo(a, a)
		alike(t, "a by a", quotient, over(1, 1))
	}
}

// P7.1, P7.3: powers are products, and their exponents go with sums.
func TestLawsOfPowers(t *testing.T) {
	for _, a := range mixed() {
		product := over(1, 1)
		for n := range 8 {
			power, ok := rat.Pow(a, n)
			if !ok {
				t.Fatal(a, n)
			}
			alike(t, "Pow", power, product)
			product = rat.Mul(product, a)
		}
	}
	source := rand.New(rand.NewSource(75))
	for range 500 {
		a, n, k := drawn(source, 3), source.Intn(40)-20, source.Intn(40)-20
		first, _ := rat.Pow(a, n)
		second, _ := rat.Pow(a, k)
		both, _ := rat.Pow(a, n+k)
		alike(t, "a to the n + k", rat.Mul(first, second), both)
		below, _ := rat.Pow(a, -n)
		alike(t, "a to the n, and the -n", rat.Mul(first, below), over(1, 1))
	}
}

// P7.1, P7.3: order goes with sums, with signs, and with what is between two.
func TestOrder(t *testing.T) {
	source := rand.New(rand.NewSource(76))
	for range 3000 {
		a, b, c := drawnAny(source, 3), drawnAny(source, 3), drawnAny(source, 3)
		order := rat.Cmp(a, b)
		if rat.Cmp(b, a) != -order || rat.Cmp(rat.Neg(b), rat.Neg(a)) != order || rat.Cmp(rat.Add(a, c), rat.Add(b, c)) != order {
			t.Fatal(a, b, c)
		}
		if rat.Sign(rat.Sub(a, b)) != order || rat.Cmp(rat.Mul(a, c), rat.Mul(b, c)) != order*rat.Sign(c) {
			t.Fatal(a, b, c)
		}
		between := rat.Mul(rat.Add(a, b), over(1, 2))
		if rat.Cmp(a, between) != order || rat.Cmp(between, b) != order {
			t.Fatal(a, b)
		}
	}
}

// P7.1: what is left of a by Floor is from 0 on, below 1; by Round it is from -1/2
// on, below 1/2.
func TestWhatIsLeft(t *testing.T) {
	source := rand.New(rand.NewSource(77))
	list := append(mixed(), halves()...)
	for range 1000 {
		list = append(list, drawnAny(source, 4))
	}
	for _, a := range list {
		left := rat.Sub(a, rat.Of(rat.Floor(a)))
		if rat.Sign(left) < 0 || rat.Cmp(left, over(1, 1)) >= 0 {
			t.Fatal("Floor", a, left)
		}
		left = rat.Sub(a, rat.Of(rat.Round(a)))
		if rat.Cmp(left, over(-1, 2)) < 0 || rat.Cmp(left, over(1, 2)) >= 0 {
			t.Fatal("Round", a, left)
		}
		whole, isWhole := rat.Whole(a)
		if isWhole != (rat.Cmp(a, rat.Of(rat.Floor(a))) == 0) || isWhole && !zint.Same(whole, rat.Round(a)) {
			t.Fatal("Whole", a, whole)
		}
	}
}
