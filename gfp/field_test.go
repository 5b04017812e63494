package gfp_test

import (
	"math/rand"
	"testing"

	"quincunx/gfp"
)

// checkNew holds New against what p is.
func checkNew(t *testing.T, p uint64, is bool) {
	t.Helper()
	f, ok := gfp.New(p)
	if ok != is {
		t.Fatal(p, ok)
	}
	if is && f.P() != p {
		t.Fatal(p, f.P())
	}
	if !is && (f != gfp.Field{}) {
		t.Fatal("not zero", p, f.P())
	}
}

// P8.1: fields of the least primes, and none of the numbers between them.
func TestNewOfSmallNumbers(t *testing.T) {
	for p := range uint64(20000) {
		checkNew(t, p, hasNoDivisor(p))
	}
}

// P8.1: numbers below 2^31, next to powers of 2 and drawn.
func TestNewOfGreatNumbers(t *testing.T) {
	for _, p := range primes() {
		checkNew(t, p, true)
	}
	for _, middle := range []uint64{1 << 16, 1 << 24, 1 << 30, 3 << 29, 1<<31 - 101} {
		for p := middle - 100; p <= middle+100; p++ {
			checkNew(t, p, hasNoDivisor(p))
		}
	}
	source := rand.New(rand.NewSource(81))
	for range 500 {
		p := uint64(source.Intn(1 << 31))
		checkNew(t, p, hasNoDivisor(p))
	}
}

// P8.1: no field of 0, of 1, of squares of primes, of products of two, of powers, and
// of numbers that Fermat's way takes for primes.
func TestNewOfNoPrime(t *testing.T) {
	for _, p := range []uint64{
		0, 1, 4, 6, 8, 9, 10, 15, 16, 25, 49, 91, 121, 169, 341, 561, 1105, 1729, 2047, 2465, 3277, 858993459, 1 << 16,
		251 * 251, 65521 * 3, 46337 * 46337, 46337 * 46327, 46309 * 46337, 32749 * 65521, 2 * 1073741789, 3 * 715827881, 1 << 30, 1373653, 25326001, greatest - 1,
	} {
		checkNew(t, p, false)
	}
	for p := uint64(2); p < 46341; p++ {
		if hasNoDivisor(p) {
			checkNew(t, p*p, false)
			checkNew(t, p*2, false)
		}
	}
}

// P8.1: no field of a number from 2^31 on, though there are primes among them.
func TestNewAbove(t *testing.T) {
	for _, p := range []uint64{
		1 << 31, 2147483659, 2147483693, 4294967291, 4294967311, 1 << 32, 1<<32 + 2, 1<<32 + 3, 1<<32 + 7, 1<<32 + greatest, 1<<33 + 2, 1<<33 + 17,
		1<<61 - 1, 1 << 62, 1 << 63, 1<<63 + 2, 1<<63 + 3, 1<<63 + greatest, top - 58, top - 1, top,
	} {
		checkNew(t, p, false)
	}
}

// P8.1: a zero Field is that of 2, in all calls.
func TestZeroField(t *testing.T) {
	var zero gfp.Field
	two := fieldOf(t, 2)
	if zero.P() != 2 || two.P() != 2 {
		t.Fatal(zero.P(), two.P())
	}
	for _, a := range words(2) {
		for _, b := range words(2) {
			if tell(zero, a, b, 5) != tell(two, a, b, 5) || tell(zero, a, b, -4) != tell(two, a, b, -4) {
				t.Fatal(a, b)
			}
			if zero.Norm(a) != a&1 || zero.Add(a, b) != (a^b)&1 || zero.Sub(a, b) != (a^b)&1 || zero.Mul(a, b) != a&b&1 {
				t.Fatal(a, b)
			}
		}
		if zero.Neg(a) != a&1 || zero.Inv(a) != a&1 || zero.Pow(a, 0) != 1 || zero.Pow(a, 3) != a&1 || zero.Pow(a, -3) != a&1 {
			t.Fatal(a)
		}
	}
}

// P8.1: two fields of one prime are the same, those of two primes aren't.
func TestFieldsOfOnePrime(t *testing.T) {
	for _, p := range primes() {
		for _, q := range primes() {
			if (fieldOf(t, p) == fieldOf(t, q)) != (p == q) {
				t.Fatal(p, q)
			}
		}
	}
}
