package modn

import (
	"math/big"
	"testing"

	"quincunx/zint"
)

// P6.1: Mod of all small numbers: the rest is found by counting.
func TestModOfSmallNumbers(t *testing.T) {
	for m := int64(1); m <= 20; m++ {
		for a := int64(-60); a <= 60; a++ {
			want := int64(0)
			for (a-want)%m != 0 {
				want++
			}
			rest, ok := Mod(zint.Of(a), zint.Of(m))
			if !ok {
				t.Fatal(a, m)
			}
			expect(t, "Mod", rest, big.NewInt(want))
		}
	}
}

// P6.1: Mod of samples, normal and not.
func TestMod(t *testing.T) {
	for _, a := range mixed() {
		for _, m := range moduli() {
			rest, ok := Mod(a, m)
			if !ok {
				t.Fatal(a, m)
			}
			expect(t, "Mod", rest, new(big.Int).Mod(valueOf(a), valueOf(m)))
		}
	}
}

// checkInverse holds Inverse against what tells it: the one number from 0 on, below
// m, whose product with a, less 1, is a multiple of m.
func checkInverse(t *testing.T, a, m zint.Int) {
	t.Helper()
	p, q := valueOf(a), valueOf(m)
	x, ok := Inverse(a, m)
	if gcd := new(big.Int).GCD(nil, nil, new(big.Int).Abs(p), q); gcd.Cmp(big.NewInt(1)) != 0 {
		expectNothing(t, "Inverse", x, ok)
		return
	}
	if !ok || !isNormal(x) || valueOf(x).Sign() < 0 || valueOf(x).Cmp(q) >= 0 {
		t.Fatal("Inverse", a, m, x, ok)
	}
	left := new(big.Int).Mul(valueOf(x), p)
	left.Sub(left, big.NewInt(1))
	if left.Mod(left, q).Sign() != 0 {
		t.Fatal("Inverse", a, m, x)
	}
}

// P6.1: Inverse of all small numbers: it is found by counting.
func TestInverseOfSmallNumbers(t *testing.T) {
	for m := int64(1); m <= 40; m++ {
		for a := int64(-90); a <= 90; a++ {
			want := int64(0)
			for want < m && (a*want-1)%m != 0 {
				want++
			}
			x, ok := Inverse(zint.Of(a), zint.Of(m))
			if want == m {
				expectNothing(t, "Inverse", x, ok)
				continue
			}
			if !ok {
				t.Fatal(a, m)
			}
			expect(t, "Inverse", x, big.NewInt(want))
		}
	}
}

// P6.1: Inverse of samples, with and without a common divisor.
func TestInverse(t *testing.T) {
	for _, a := range mixed() {
		for _, m := range moduli() {
			checkInverse(t, a, m)
			checkInverse(t, zint.Add(zint.Mul(a, m), zint.Of(1)), m)
			checkInverse(t, zint.Sub(m, zint.Of(1)), m)
			checkInverse(t, zint.Mul(a, zint.Of(6)), zint.Mul(m, zint.Of(3)))
		}
	}
}

// checkPow holds Pow, e maybe below 0, against a reckoning of its own.
func checkPow(t *testing.T, a, e, m zint.Int) {
	t.Helper()
	p, q, n := valueOf(a), valueOf(m), valueOf(e)
	got, ok := Pow(a, e, m)
	if n.Sign() < 0 {
		gcd, x := new(big.Int), new(big.Int)
		gcd.GCD(x, nil, new(big.Int).Mod(p, q), q)
		if gcd.Cmp(big.NewInt(1)) != 0 {
			expectNothing(t, "Pow", got, ok)
			return
		}
		p, n = x, n.Neg(n)
	}
	if !ok {
		t.Fatal("Pow", a, e, m)
	}
	want := new(big.Int).Exp(new(big.Int).Mod(p, q), n, q)
	expect(t, "Pow", got, want.Mod(want, q))
}

// P6.1: Pow of all small numbers: product by product.
func TestPowOfSmallNumbers(t *testing.T) {
	for m := int64(1); m <= 25; m++ {
		for a := int64(-30); a <= 30; a++ {
			want := 1 % m
			for e := int64(0); e < 12; e++ {
				got, ok := Pow(zint.Of(a), zint.Of(e), zint.Of(m))
				if !ok {
					t.Fatal(a, e, m)
				}
				expect(t, "Pow", got, big.NewInt(want))
				want = ((want*a)%m + m) % m
			}
		}
	}
}

// P6.1: Pow of an e below 0: the product with the power is 1, or there is none.
func TestPowBelowNought(t *testing.T) {
	for m := int64(1); m <= 25; m++ {
		for a := int64(-30); a <= 30; a++ {
			_, hasInverse := Inverse(zint.Of(a), zint.Of(m))
			for e := int64(1); e < 8; e++ {
				below, ok := Pow(zint.Of(a), zint.Of(-e), zint.Of(m))
				if !hasInverse {
					expectNothing(t, "Pow", below, ok)
					continue
				}
				power, _ := Pow(zint.Of(a), zint.Of(e), zint.Of(m))
				one, _ := Mod(zint.Mul(power, below), zint.Of(m))
				if !ok || !isNormal(below) || zint.Sign(below) < 0 || zint.Cmp(below, zint.Of(m)) >= 0 {
					t.Fatal(a, -e, m, below, ok)
				}
				expect(t, "Pow", one, big.NewInt(1%m))
			}
		}
	}
}

// P6.1: Pow of samples, normal and not.
func TestPow(t *testing.T) {
	var exponents []zint.Int
	exponents = append(exponents, noughts()...)
	for _, e := range []int64{1, -1, 2, -2, 3, -3, 10, -10, 255, -256, 1 << 40, -1 << 40} {
		exponents = append(exponents, zint.Of(e), longer(zint.Of(e), 2))
	}
	for _, a := range mixed() {
		for _, m := range moduli() {
			for _, e := range exponents {
				checkPow(t, a, e, m)
			}
		}
	}
}

// P6.1: Pow of long exponents.
func TestPowOfLongExponents(t *testing.T) {
	list := mixed()
	for i, e := range list {
		for k := range 12 {
			checkPow(t, list[(7*i+k)%len(list)], e, moduli()[(5*i+3*k)%len(moduli())])
		}
	}
	ones := zint.Sub(zint.Mul(zint.Of(1<<62), zint.Of(1<<62)), zint.Of(1))
	power, _ := zint.Pow(zint.Of(2), 5000)
	for _, e := range []zint.Int{ones, power, zint.Sub(power, zint.Of(1)), zint.Neg(power)} {
		checkPow(t, zint.Of(3), e, zint.Of(1<<31-1))
		checkPow(t, zint.Of(-3), e, ones)
		checkPow(t, zint.Of(0), e, zint.Of(10))
		checkPow(t, zint.Of(5), e, zint.Of(1))
	}
}

// P6.1: the powers of 0, and by 1.
func TestPowOfNoughtAndByOne(t *testing.T) {
	for _, nought := range noughts() {
		for _, m := range moduli() {
			for _, e := range noughts() {
				one, ok := Pow(nought, e, m)
				if !ok {
					t.Fatal(e, m)
				}
				expect(t, "0 to the 0", one, new(big.Int).Mod(big.NewInt(1), valueOf(m)))
			}
			none, ok := Pow(nought, zint.Of(3), m)
			if !ok {
				t.Fatal(m)
			}
			expect(t, "0 to the 3", none, new(big.Int))
			if below, ok := Pow(nought, zint.Of(-3), m); ok != zint.Same(m, zint.Of(1)) || len(below.A) > 0 {
				t.Fatal(m, below, ok)
			}
		}
	}
	for _, a := range mixed() {
		for _, e := range []int64{0, 1, -1, 5, -5} {
			rest, ok := Pow(a, zint.Of(e), longer(zint.Of(1), 1))
			if !ok {
				t.Fatal(a, e)
			}
			expect(t, "by 1", rest, new(big.Int))
		}
		x, ok := Inverse(a, zint.Of(1))
		if !ok {
			t.Fatal(a)
		}
		expect(t, "by 1", x, new(big.Int))
	}
}

// P6.1: an m that isn't above 0.
func TestNoModulus(t *testing.T) {
	for _, m := range noModuli() {
		for _, a := range mixed() {
			rest, ok := Mod(a, m)
			expectNothing(t, "Mod", rest, ok)
			x, ok := Inverse(a, m)
			expectNothing(t, "Inverse", x, ok)
			for _, e := range []int64{0, 1, -1, 7, -7} {
				power, ok := Pow(a, zint.Of(e), m)
				expectNothing(t, "Pow", power, ok)
			}
		}
	}
}

// The chapter's example.
func TestExampleOfInverse(t *testing.T) {
	if x, ok := Inverse(zint.Of(3), zint.Of(7)); !ok || !zint.Same(x, zint.Of(5)) {
		t.Error(x, ok)
	}
}
