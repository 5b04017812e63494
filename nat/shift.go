package nat

import (
	"math/bits"

	"quincunx/api"
)

const wordBits = 64

// Shl is a times 2^n; false, if n is below 0 or above MaxBits.
func Shl(a Nat, n int) (Nat, bool) {
	if n < 0 || n > api.MaxBits {
		return nil, false
	}
	a = trim(a)
	if len(a) == 0 {
		return nil, true
	}
	skip, up := n/wordBits, n%wordBits
	out := make(Nat, skip+len(a)+1)
	carry := uint64(0)
	for i, w := range a {
		out[skip+i] = w<<up | carry
		carry = w >> (wordBits - up)
	}
	out[skip+len(a)] = carry
	return trim(out), true
}

// Shr is a divided by 2^n, rounded down; false, if n is below 0.
func Shr(a Nat, n int) (Nat, bool) {
	if n < 0 {
		return nil, false
	}
	a = trim(a)
	skip, down := n/wordBits, n%wordBits
	if skip >= len(a) {
		return nil, true
	}
	out := make(Nat, len(a)-skip)
	carry := uint64(0)
	for i := len(a) - 1; i >= skip; i-- {
		out[i-skip] = a[i]>>down | carry
		carry = a[i] << (wordBits - down)
	}
	return trim(out), true
}

// Bits is the least n so that a is less than 2^n.
func Bits(a Nat) int {
	a = trim(a)
	if len(a) == 0 {
		return 0
	}
	last := len(a) - 1
	return last*wordBits + bits.Len64(a[last])
}

// Bit is the bit i of a; 0 where a has none.
func Bit(a Nat, i int) int {
	if i < 0 || i/wordBits >= len(a) {
		return 0
	}
	return int(a[i/wordBits] >> (i % wordBits) & 1)
}

// Zeros is the greatest n so that 2^n divides a; 0 of 0.
func Zeros(a Nat) int {
	for i, w := range a {
		if w != 0 {
			return i*wordBits + bits.TrailingZeros64(w)
		}
	}
	return 0
}
