package div

import (
	"math/bits"

	"quincunx/mul"
	"quincunx/nat"
)

// Gcd is the greatest number that divides both; 0 of 0 and 0.
func Gcd(a, b nat.Nat) nat.Nat {
	x, xFits := nat.Word(a)
	y, yFits := nat.Word(b)
	if xFits && yFits {
		return nat.Of(gcdOfWords(x, y))
	}
	less, ok := Mod(a, b)
	if !ok {
		return nat.Norm(a)
	}
	more := nat.Norm(b)
	if len(less) > 1 {
		more, less = shorten(more, less)
	}
	if len(less) == 0 {
		return more
	}
	_, x, _ = Small(more, less[0])
	return nat.Of(gcdOfWords(less[0], x))
}

// Lcm is the least number above 0 that both divide; 0, if one is 0. Of 0 and 0
// nothing is divided by their Gcd, and that counts as 0 too.
func Lcm(a, b nat.Nat) nat.Nat {
	part, _ := Exact(a, Gcd(a, b))
	return mul.Mul(part, b)
}

func gcdOfWords(x, y uint64) uint64 {
	for y != 0 {
		x, y = y, x%y
	}
	return x
}

// shorten goes Euclid's way of two numbers, the greater one first, until the
// lesser one has a word at most. It goes on in the memory of the first, and in as
// many words for the second: jumps change both in place.
func shorten(a, less nat.Nat) (nat.Nat, nat.Nat) {
	b := make(nat.Nat, len(a))
	copy(b, less)
	for len(trim(b)) > 1 {
		j := jumpOf(leading(a, b))
		if j.isNone() {
			step(a, b)
		} else {
			j.take(a, b)
		}
		if nat.Cmp(a, b) < 0 {
			a, b = b, a
		}
		a = trim(a)
		b = b[:len(a)]
	}
	return a, trim(b)
}

// step is one of Euclid's: a becomes its rest by b.
func step(a, b nat.Nat) {
	rest, _ := Mod(a, b)
	n := copy(a, rest)
	clear(a[n:])
}

// leading is the greatest 64 bits of a, the greatest one of which is set, and
// what b has in their places.
func leading(a, b nat.Nat) (uint64, uint64) {
	n := len(a)
	up := bits.LeadingZeros64(a[n-1])
	down := wordBits - up
	return a[n-1]<<up | a[n-2]>>down, b[n-1]<<up | b[n-2]>>down
}
