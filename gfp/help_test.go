package gfp_test

import (
	"math/big"
	"math/rand"
	"slices"
	"testing"

	"quincunx/gfp"
	"quincunx/nat"
	"quincunx/zint"
)

const (
	top      = 1<<64 - 1
	greatest = 1<<31 - 1
)

// hasNoDivisor tells whether p is a prime, by trying all numbers that might divide
// it.
func hasNoDivisor(p uint64) bool {
	if p < 2 {
		return false
	}
	for d := uint64(2); d*d <= p; d++ {
		if p%d == 0 {
			return false
		}
	}
	return true
}

// primes holds the least ones, those next to powers of 2, and the greatest ones.
func primes() []uint64 {
	return []uint64{2, 3, 5, 7, 11, 13, 31, 251, 257, 65521, 65537, 1000003, 1<<30 - 35, 1<<30 + 3, 1999999973, greatest - 18, greatest}
}

// fieldOf is the field of a prime.
func fieldOf(t *testing.T, p uint64) gfp.Field {
	t.Helper()
	f, ok := gfp.New(p)
	if !ok {
		t.Fatal("no field of", p)
	}
	return f
}

// elements holds some of p: the least ones, those in the middle, and the greatest
// ones.
func elements(p uint64) []uint64 {
	list := []uint64{0, 1, 2, 3, 4, 5, p / 3, p/2 - 1, p / 2, p/2 + 1, p - 3, p - 2, p - 1}
	return slices.DeleteFunc(list, func(a uint64) bool { return a >= p })
}

// others holds words that aren't elements of p: p itself, multiples of it and what is
// next to them, up to the greatest word.
func others(p uint64) []uint64 {
	list := []uint64{top, top - 1, top / 2, top/2 + 1, 1 << 32, 1<<32 - 1, 1 << 31, 3 << 62, 0xaaaaaaaaaaaaaaaa}
	for _, n := range []uint64{1, 2, 3, p - 1, p, p + 1, top / p / 2, top/p - 1} {
		list = append(list, n*p, n*p+1, n*p+p-1, n*p+p/2)
	}
	list = append(list, top/p*p, top/p*p-1)
	return slices.DeleteFunc(list, func(a uint64) bool { return a < p })
}

// words holds elements and others.
func words(p uint64) []uint64 {
	return append(elements(p), others(p)...)
}

// drawn is any word: an element of p, a multiple of it, or another one.
func drawn(source *rand.Rand, p uint64) uint64 {
	switch source.Intn(4) {
	case 0:
		return source.Uint64() % p
	case 1:
		return source.Uint64() / p * p
	case 2:
		return source.Uint64() >> source.Intn(64)
	}
	return source.Uint64()
}

func bigOf(a uint64) *big.Int {
	return new(big.Int).SetUint64(a)
}

// restOf is x's rest by p, from 0 on.
func restOf(x *big.Int, p uint64) uint64 {
	return new(big.Int).Mod(x, bigOf(p)).Uint64()
}

// expect fails unless got is x's rest by f's prime.
func expect(t *testing.T, call string, f gfp.Field, got uint64, x *big.Int) {
	t.Helper()
	if want := restOf(x, f.P()); got != want {
		t.Fatalf("%s of %.40s by %d: %d, and not %d", call, x, f.P(), got, want)
	}
}

// same fails unless both elements are the same one.
func same(t *testing.T, law string, a, b uint64) {
	t.Helper()
	if a != b {
		t.Fatal(law, a, b)
	}
}

// valueOf reckons a's number by layer 1's words alone.
func valueOf(a zint.Int) *big.Int {
	x := new(big.Int)
	for _, w := range slices.Backward(a.A) {
		x.Add(x.Lsh(x, 64), bigOf(w))
	}
	if a.Neg {
		x.Neg(x)
	}
	return x
}

// longer is a with n noughts behind it: the same number.
func longer(a zint.Int, n int) zint.Int {
	return zint.Int{Neg: a.Neg, A: append(slices.Clone(a.A), make(nat.Nat, n)...)}
}

// drawnInt is a whole number of n words, of either sign, maybe with noughts at the
// end.
func drawnInt(source *rand.Rand, n int) zint.Int {
	a := make(nat.Nat, n)
	for i := range a {
		switch source.Intn(5) {
		case 0:
			a[i] = 0
		case 1:
			a[i] = top
		default:
			a[i] = source.Uint64() >> source.Intn(64)
		}
	}
	return zint.Int{Neg: source.Intn(2) == 0, A: a}
}
