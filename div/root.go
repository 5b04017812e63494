package div

import (
	"math/bits"

	"quincunx/mul"
	"quincunx/nat"
)

// Root is the greatest r whose square isn't above a, and a less that square.
// The root of a's greater half, and 1, are a's root by 2^low, and somewhat more;
// from there one step of Newton's comes less than 1 above the root, as low is a
// quarter of a's bits. Rounded down it is the root or 1 more, and the loop puts
// that right.
func Root(a nat.Nat) (nat.Nat, nat.Nat) {
	if x, ok := nat.Word(a); ok {
		root := rootOfWord(x)
		return nat.Of(root), nat.Of(x - root*root)
	}
	low := nat.Bits(a) / 4
	half, _ := nat.Shr(a, 2*low)
	high, _ := Root(half)
	root := newton(a, shiftUp(nat.Add(high, nat.Of(1)), low))
	for {
		if rest, ok := nat.Sub(a, mul.Square(root)); ok {
			return root, rest
		}
		root, _ = nat.Sub(root, nat.Of(1))
	}
}

// newton is the mean of x and a by x, rounded down: never below a's root,
// rounded down.
func newton(a, x nat.Nat) nat.Nat {
	quotient, _, _ := DivMod(a, x)
	half, _ := nat.Shr(nat.Add(x, quotient), 1)
	return half
}

// rootOfWord begins above the root.
func rootOfWord(x uint64) uint64 {
	if x == 0 {
		return 0
	}
	root := uint64(1) << ((bits.Len64(x) + 1) / 2)
	for root > x/root {
		root = (root + x/root) / 2
	}
	return root
}

// shiftUp is a, that isn't 0, times 2^n: layer 1's Shl goes up to MaxBits alone.
func shiftUp(a nat.Nat, n int) nat.Nat {
	up, _ := nat.Shl(a, n%wordBits)
	return append(make(nat.Nat, n/wordBits), up...)
}
