package gfp_test

import (
	"math/big"
	"math/rand"
	"testing"

	"quincunx/nat"
	"quincunx/zint"
)

func checkOf(t *testing.T, p uint64, a zint.Int) {
	t.Helper()
	f := fieldOf(t, p)
	expect(t, "Of", f, f.Of(a), valueOf(a))
}

// P8.1: rests that are easily reckoned.
func TestOf(t *testing.T) {
	for _, c := range []struct {
		p    uint64
		a    int64
		rest uint64
	}{
		{7, 0, 0}, {7, 6, 6}, {7, 7, 0}, {7, 8, 1}, {7, -1, 6}, {7, -7, 0}, {7, -8, 6}, {7, -6, 1}, {2, 5, 1}, {2, -5, 1}, {2, -4, 0}, {3, -4, 2},
		{greatest, greatest, 0}, {greatest, -greatest, 0}, {greatest, greatest - 1, greatest - 1}, {greatest, 1 << 31, 1}, {greatest, -(1 << 31), greatest - 1},
		{greatest, 1 << 62, 1}, {greatest, -1 << 63, greatest - 2}, {greatest, 1<<63 - 1, 1},
	} {
		if got := fieldOf(t, c.p).Of(zint.Of(c.a)); got != c.rest {
			t.Error(c, got)
		}
	}
}

// P8.1: all numbers of one word that are next to 0, and words of all kinds, of both
// signs.
func TestOfOneWord(t *testing.T) {
	for _, p := range primes() {
		for a := int64(-40); a <= 40; a++ {
			checkOf(t, p, zint.Of(a))
		}
		for _, w := range words(p) {
			checkOf(t, p, zint.Int{A: nat.Nat{w}})
			checkOf(t, p, zint.Int{Neg: true, A: nat.Nat{w}})
		}
	}
}

// P8.1: several words, of both signs, with noughts among them and at the end.
func TestOfSeveralWords(t *testing.T) {
	source := rand.New(rand.NewSource(82))
	for _, p := range primes() {
		for _, a := range []nat.Nat{{0, 1}, {0, 0, 1}, {top, top}, {top, top, top, top}, {1, 0, 0, 0, 1}, {p, p}, {p - 1, p - 1}, {0, p}, {p, 0, p - 1}} {
			for n := range 3 {
				checkOf(t, p, longer(zint.Int{A: a}, n))
				checkOf(t, p, longer(zint.Int{Neg: true, A: a}, n))
			}
		}
		for range 100 {
			checkOf(t, p, longer(drawnInt(source, 1+source.Intn(12)), source.Intn(3)))
		}
		checkOf(t, p, drawnInt(source, 2000))
	}
}

// P8.1: multiples of the prime, and what is next to them.
func TestOfMultiples(t *testing.T) {
	source := rand.New(rand.NewSource(83))
	for _, p := range primes() {
		f := fieldOf(t, p)
		for range 20 {
			multiple := zint.Mul(drawnInt(source, 1+source.Intn(5)), zint.Of(int64(p)))
			for apart := int64(-3); apart <= 3; apart++ {
				expect(t, "Of", f, f.Of(zint.Add(multiple, zint.Of(apart))), big.NewInt(apart))
			}
		}
	}
}

// P8.1: 0, however it is written: A nil, empty or of noughts, with Neg and without.
func TestOfNought(t *testing.T) {
	for _, p := range primes() {
		for _, a := range []nat.Nat{nil, {}, {0}, {0, 0, 0}} {
			for _, isNeg := range []bool{false, true} {
				if got := fieldOf(t, p).Of(zint.Int{Neg: isNeg, A: a}); got != 0 {
					t.Fatal(p, a, isNeg, got)
				}
			}
		}
	}
}
