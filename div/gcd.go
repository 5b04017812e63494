package div

import (
	"quincunx/lehmer"
	"quincunx/mul"
	"quincunx/nat"
)

// Gcd is the greatest number that divides both; 0 of 0 and 0.
func Gcd(a, b nat.Nat) nat.Nat {
	x, xFits := nat.Word(a)
	y, yFits := nat.Word(b)
	if xFits && yFits {
		return nat.Of(gcdOfWords(x, y))
	}
	less, ok := Mod(a, b)
	if !ok {
		return nat.Norm(a)
	}
	more := nat.Norm(b)
	if len(less) > 1 {
		more, less = shorten(more, less)
	}
	if len(less) == 0 {
		return more
	}
	_, x, _ = Small(more, less[0])
	return nat.Of(gcdOfWords(less[0], x))
}

// Lcm is the least number above 0 that both divide; 0, if one is 0. Of 0 and 0
// nothing is divided by their Gcd, and that counts as 0 too.
func Lcm(a, b nat.Nat) nat.Nat {
	part, _ := Exact(a, Gcd(a, b))
	return mul.Mul(part, b)
}

func gcdOfWords(x, y uint64) uint64 {
	for y != 0 {
		x, y = y, x%y
	}
	return x
}

// shorten goes Euclid's way of two numbers, the greater one first, until the
// lesser one has a word at most. It goes on in the memory of the first, and in as
// many words for the second: jumps change both in place.
func shorten(a, less nat.Nat) (nat.Nat, nat.Nat) {
	b := make(nat.Nat, len(a))
	copy(b, less)
	for len(trim(b)) > 1 {
		if j := lehmer.Of(a, b); j.IsNone() {
			step(a, b)
		} else {
			j.Take(a, b)
		}
		if nat.Cmp(a, b) < 0 {
			a, b = b, a
		}
		a = trim(a)
		b = b[:len(a)]
	}
	return a, trim(b)
}

// step is one of Euclid's: a becomes its rest by b.
func step(a, b nat.Nat) {
	rest, _ := Mod(a, b)
	n := copy(a, rest)
	clear(a[n:])
}
