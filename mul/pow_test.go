package mul

import (
	"math"
	"math/big"
	"slices"
	"testing"

	"quincunx/api"
	"quincunx/nat"
)

func checkPow(t *testing.T, a nat.Nat, n int) {
	t.Helper()
	got, ok := Pow(a, n)
	if !ok {
		t.Fatal("nothing to the", n)
	}
	expect(t, "Pow", got, new(big.Int).Exp(valueOf(a), big.NewInt(int64(n)), nil))
}

func checkNoPow(t *testing.T, a nat.Nat, n int) {
	t.Helper()
	if got, ok := Pow(a, n); ok || len(got) != 0 {
		t.Fatal(len(a), n, len(got), ok)
	}
}

// P2.1: Pow.
func TestPow(t *testing.T) {
	for _, a := range samples() {
		for n := range 40 {
			checkPow(t, a, n)
		}
		checkPow(t, a, 1000)
		checkPow(t, a, 4095)
	}
	for _, a := range patterns(100) {
		for _, n := range []int{0, 1, 2, 3, 7, 150} {
			checkPow(t, a, n)
		}
	}
	if a, ok := Pow(nat.Of(3), 4); !ok || !slices.Equal(a, nat.Nat{81}) {
		t.Error(a, ok)
	}
	if a, ok := Pow(nat.Nat{3, 0, 0}, 4); !ok || !slices.Equal(a, nat.Nat{81}) {
		t.Error("not normal:", a, ok)
	}
}

// P2.1: the power 0 is 1, and other powers of 0 are 0, be they never so great.
func TestPowOfNought(t *testing.T) {
	for _, a := range []nat.Nat{nil, {}, {0}, {0, 0}} {
		if p, ok := Pow(a, 0); !ok || !slices.Equal(p, nat.Nat{1}) {
			t.Error("0 to the 0:", p, ok)
		}
		for _, n := range []int{1, 2, 3, api.MaxBits, api.MaxBits + 1, math.MaxInt - 1, math.MaxInt} {
			if p, ok := Pow(a, n); !ok || len(p) != 0 {
				t.Error(n, p, ok)
			}
		}
	}
}

// P2.1: no power below 0.
func TestPowBelowNought(t *testing.T) {
	for _, a := range append(samples(), patterns(2*short)...) {
		for _, n := range []int{-1, -2, math.MinInt + 1, math.MinInt} {
			checkNoPow(t, a, n)
		}
	}
}

// P2.1: n times Bits is at most MaxBits: the factors tell, not the power.
func TestPowAtTheLimit(t *testing.T) {
	for _, a := range []nat.Nat{{1}, {1, 0}, {2}, {3}, {5}, {16}, {127}, {top}, {0, 1}, {top, top}, {1, 0, 1}, patterns(100)[1]} {
		most := api.MaxBits / nat.Bits(a)
		checkPow(t, a, most)
		for _, n := range []int{most + 1, most + 2, 2 * most, math.MaxInt} {
			checkNoPow(t, a, n)
		}
	}
	if a, ok := Pow(nat.Of(1), api.MaxBits); !ok || !slices.Equal(a, nat.Nat{1}) {
		t.Error("1 has one of Bits", a, ok)
	}
	checkNoPow(t, nat.Of(1), api.MaxBits+1)
	checkNoPow(t, nat.Of(4), api.MaxBits/2)
}

// P2.1: products of n and Bits that run over an int are above MaxBits.
func TestPowRunsOver(t *testing.T) {
	for _, bits := range []int{2, 3, 4, 8, 64} {
		a, _ := nat.Shl(nat.Of(1), bits-1)
		for _, n := range []int{math.MaxInt/2 + 1, math.MaxInt/4 + 1, math.MaxInt/8 + 1, math.MaxInt/32 + 1, math.MaxInt} {
			checkNoPow(t, a, n)
		}
	}
}

// P2.1: of a number of more than MaxBits there is the power 0 alone.
func TestPowOfVeryManyWords(t *testing.T) {
	words := api.MaxBits / 64
	whole, more := make(nat.Nat, words), make(nat.Nat, words+1)
	whole[words-1], more[words] = 1<<63, 1
	for _, a := range []nat.Nat{whole, more} {
		if p, ok := Pow(a, 0); !ok || !slices.Equal(p, nat.Nat{1}) {
			t.Error(p, ok)
		}
		checkNoPow(t, a, 2)
	}
	checkNoPow(t, more, 1)
	if p, ok := Pow(noughts(whole, 3), 1); !ok || !slices.Equal(p, whole) {
		t.Error("as many bits as may be:", len(p), ok)
	}
}
