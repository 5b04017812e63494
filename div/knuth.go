package div

import (
	"math/bits"

	"quincunx/nat"
)

const top = 1<<64 - 1

// byWords is Knuth's D. Both are trimmed, b has two words or more, and a isn't
// shorter. Both are shifted till b's greatest bit is set: only then are guesses
// good.
func byWords(a, b nat.Nat) (nat.Nat, nat.Nat) {
	up := bits.LeadingZeros64(b[len(b)-1])
	b, _ = nat.Shl(b, up)
	shifted, _ := nat.Shl(a, up)
	rest := make(nat.Nat, len(a)+1)
	copy(rest, shifted)
	quotient := make(nat.Nat, len(a)-len(b)+1)
	for i := len(quotient) - 1; i >= 0; i-- {
		quotient[i] = takeOut(rest[i:i+len(b)+1], b)
	}
	rest, _ = nat.Shr(rest, up)
	return trim(quotient), rest
}

// takeOut takes b out of rest as often as may be, and tells how often: a word,
// as rest without its least word is less than b. Rest has a word more than b.
func takeOut(rest, b nat.Nat) uint64 {
	times := guess(rest, b)
	for below := subProduct(rest, b, times); below; below = !addBack(rest, b) {
		times--
	}
	return times
}

// guess is how often b goes into rest as the three greatest words of rest, and
// the two of b, tell: never too little, and seldom one too much. The greatest
// word of b alone would tell up to two too much.
func guess(rest, b nat.Nat) uint64 {
	n := len(b)
	first, second := b[n-1], b[n-2]
	times, left, over := uint64(top), uint64(0), uint64(0)
	if rest[n] < first {
		times, left = bits.Div64(rest[n], rest[n-1], first)
	} else {
		left, over = bits.Add64(rest[n-1], first, 0)
	}
	for over == 0 {
		high, low := bits.Mul64(times, second)
		if high < left || high == left && low <= rest[n-2] {
			break
		}
		times--
		left, over = bits.Add64(left, first, 0)
	}
	return times
}

// subProduct takes b times x from rest, that has a word more, and tells whether
// that ran below 0.
func subProduct(rest, b nat.Nat, x uint64) bool {
	carry := uint64(0)
	for i, w := range b {
		high, low := bits.Mul64(w, x)
		low, over := bits.Add64(low, carry, 0)
		high += over
		rest[i], over = bits.Sub64(rest[i], low, 0)
		carry = high + over
	}
	left, borrow := bits.Sub64(rest[len(b)], carry, 0)
	rest[len(b)] = left
	return borrow != 0
}

// addBack adds b to rest, that has a word more and ran below 0, and tells
// whether it is above again.
func addBack(rest, b nat.Nat) bool {
	carry := uint64(0)
	for i, w := range b {
		rest[i], carry = bits.Add64(rest[i], w, carry)
	}
	rest[len(b)], carry = bits.Add64(rest[len(b)], 0, carry)
	return carry != 0
}
