package nat

import (
	"math"
	"math/big"
	"slices"
	"testing"

	"quincunx/api"
)

var shifts = []int{0, 1, 2, 31, 63, 64, 65, 127, 128, 129, 191, 192, 300, 1000}

// P1.2: Shl.
func TestShl(t *testing.T) {
	for _, a := range samples() {
		for _, n := range shifts {
			got, ok := Shl(a, n)
			if !ok {
				t.Fatal(a, n)
			}
			expect(t, "Shl", got, new(big.Int).Lsh(valueOf(a), uint(n)))
		}
	}
	if a, ok := Shl(Nat{3, 0}, 65); !ok || !slices.Equal(a, Nat{0, 6}) {
		t.Error(a, ok)
	}
}

// P1.2: Shl below 0, at MaxBits and above it.
func TestShlEdges(t *testing.T) {
	for _, a := range []Nat{nil, {0, 0}, {1}, {top, top, 0}} {
		for _, n := range []int{-1, -64, math.MinInt, api.MaxBits + 1, api.MaxBits + 64, math.MaxInt} {
			if got, ok := Shl(a, n); ok || len(got) != 0 {
				t.Error(a, n, len(got), ok)
			}
		}
		for _, n := range []int{api.MaxBits, api.MaxBits - 1} {
			got, ok := Shl(a, n)
			if !ok {
				t.Error(a, n)
			}
			expect(t, "Shl", got, new(big.Int).Lsh(valueOf(a), uint(n)))
		}
	}
}

// P1.2: Shr.
func TestShr(t *testing.T) {
	for _, a := range samples() {
		for _, n := range shifts {
			got, ok := Shr(a, n)
			if !ok {
				t.Fatal(a, n)
			}
			expect(t, "Shr", got, new(big.Int).Rsh(valueOf(a), uint(n)))
		}
	}
	if a, ok := Shr(Nat{top, 6}, 65); !ok || !slices.Equal(a, Nat{3}) {
		t.Error("rounded down:", a, ok)
	}
}

// P1.2: Shr below 0, and by more than there is: it knows no greatest shift.
func TestShrEdges(t *testing.T) {
	for _, a := range []Nat{nil, {0, 0}, {1}, {top, top, 0}} {
		for _, n := range []int{-1, -64, math.MinInt} {
			if got, ok := Shr(a, n); ok || len(got) != 0 {
				t.Error(a, n, got, ok)
			}
		}
		for _, n := range []int{api.MaxBits, api.MaxBits + 1, math.MaxInt} {
			if got, ok := Shr(a, n); !ok || len(got) != 0 {
				t.Error(a, n, got, ok)
			}
		}
	}
	high := make(Nat, api.MaxBits/64+2)
	high[len(high)-1] = 3
	if got, ok := Shr(high, api.MaxBits+65); !ok || !slices.Equal(got, Nat{1}) {
		t.Error("above MaxBits:", got, ok)
	}
}

// P1.2: Bits.
func TestBits(t *testing.T) {
	for _, a := range samples() {
		if got := Bits(a); got != valueOf(a).BitLen() {
			t.Error(a, got)
		}
	}
	if Bits(nil) != 0 || Bits(Nat{0, 0}) != 0 || Bits(Nat{1, 0}) != 1 || Bits(Nat{0, 1}) != 65 || Bits(Nat{top, 0}) != 64 {
		t.Error("Bits")
	}
}

// P1.2: Bit, below 0 and behind the last word too.
func TestBit(t *testing.T) {
	for _, a := range samples() {
		want := valueOf(a)
		for i := range 64*len(a) + 70 {
			if got := Bit(a, i); got != int(want.Bit(i)) {
				t.Error(a, i, got)
			}
		}
		for _, i := range []int{-1, -63, -64, -65, math.MinInt, math.MaxInt} {
			if got := Bit(a, i); got != 0 {
				t.Error(a, i, got)
			}
		}
	}
}

// P1.2: Zeros.
func TestZeros(t *testing.T) {
	for _, a := range samples() {
		if got := Zeros(a); got != int(valueOf(a).TrailingZeroBits()) {
			t.Error(a, got)
		}
	}
	if Zeros(nil) != 0 || Zeros(Nat{0, 0, 0}) != 0 || Zeros(Nat{0, 2, 0}) != 65 || Zeros(Nat{1 << 63}) != 63 {
		t.Error("Zeros")
	}
}
