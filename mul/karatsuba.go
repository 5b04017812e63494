package mul

import (
	"math/bits"

	"quincunx/nat"
)

// short is the length, in words, below which layer 1's way is the faster one.
const short = 40

// roomFor is how many words of room karatsuba needs for each word of a factor.
// Halves of n words, rounded up to h, take 2 h, and then the greater one of
// 2 h + 1 and what a half needs: 3 n is enough from n = 5 on.
const roomFor = 3

// karatsuba writes to product, of 2 n words, the product of a and b, both of n
// words. Three products of halves do for four: the two in the middle are the
// outer ones' sum less the product of the halves' differences.
func karatsuba(product, a, b, room nat.Nat) {
	if len(a) < short {
		fill(product, nat.Mul(a, b))
		return
	}
	half := (len(a) + 1) / 2
	cross, room := room[:2*half], room[2*half:]
	below := distance(product[:half], a[:half], a[half:])
	if distance(product[half:2*half], b[:half], b[half:]) {
		below = !below
	}
	karatsuba(cross, product[:half], product[half:2*half], room)
	low, high := product[:2*half], product[2*half:]
	karatsuba(low, a[:half], b[:half], room)
	karatsuba(high, a[half:], b[half:], room)
	middle := room[:2*half+1]
	fill(middle, low)
	addTo(middle, high)
	if below {
		addTo(middle, cross)
	} else {
		subFrom(middle, cross)
	}
	addTo(product[half:], middle)
}

// fill writes a to out, and noughts to what is left of out.
func fill(out, a nat.Nat) {
	n := copy(out, a)
	clear(out[n:])
}

// distance writes to out how far a and b lie apart, and tells whether a is the
// lesser one. Out is as long as a, and b isn't longer.
func distance(out, a, b nat.Nat) bool {
	copy(out, a)
	if !subFrom(out, b) {
		return false
	}
	carry := uint64(1)
	for i, w := range out {
		out[i], carry = bits.Add64(^w, 0, carry)
	}
	return true
}

// addTo adds a to sum, that has room for what comes.
func addTo(sum, a nat.Nat) {
	carry := uint64(0)
	for i, w := range a {
		sum[i], carry = bits.Add64(sum[i], w, carry)
	}
	for i := len(a); carry != 0; i++ {
		sum[i], carry = bits.Add64(sum[i], 0, carry)
	}
}

// subFrom takes a from rest, and tells whether that ran below 0.
func subFrom(rest, a nat.Nat) bool {
	borrow := uint64(0)
	for i, w := range a {
		rest[i], borrow = bits.Sub64(rest[i], w, borrow)
	}
	for i := len(a); borrow != 0 && i < len(rest); i++ {
		rest[i], borrow = bits.Sub64(rest[i], 0, borrow)
	}
	return borrow != 0
}
