package nat

import "math/bits"

// Add is the sum.
func Add(a, b Nat) Nat {
	a, b = trim(a), trim(b)
	if len(a) < len(b) {
		a, b = b, a
	}
	sum := make(Nat, len(a)+1)
	carry := uint64(0)
	for i, w := range b {
		sum[i], carry = bits.Add64(a[i], w, carry)
	}
	for i := len(b); i < len(a); i++ {
		sum[i], carry = bits.Add64(a[i], 0, carry)
	}
	sum[len(a)] = carry
	return trim(sum)
}

// Sub is the difference; false, if a is less than b.
func Sub(a, b Nat) (Nat, bool) {
	a, b = trim(a), trim(b)
	if len(a) < len(b) {
		return nil, false
	}
	rest := make(Nat, len(a))
	borrow := uint64(0)
	for i, w := range b {
		rest[i], borrow = bits.Sub64(a[i], w, borrow)
	}
	for i := len(b); i < len(a); i++ {
		rest[i], borrow = bits.Sub64(a[i], 0, borrow)
	}
	if borrow != 0 {
		return nil, false
	}
	return trim(rest), true
}

// Mul is the product, word by word: layer 2 has the faster way.
func Mul(a, b Nat) Nat {
	a, b = trim(a), trim(b)
	if len(a) < len(b) {
		a, b = b, a
	}
	if len(b) == 0 {
		return nil
	}
	product := make(Nat, len(a)+len(b))
	for i, w := range b {
		product[i+len(a)] = addProduct(product[i:i+len(a)], a, w)
	}
	return trim(product)
}

// addProduct adds a times x to sum, which has as many words as a, and answers
// the carry: the greatest word twice, added to the greatest product of two
// words, still is of two words.
func addProduct(sum, a Nat, x uint64) uint64 {
	carry := uint64(0)
	for i, w := range a {
		high, low := bits.Mul64(w, x)
		low, over := bits.Add64(low, carry, 0)
		high += over
		sum[i], over = bits.Add64(sum[i], low, 0)
		carry = high + over
	}
	return carry
}

// MulAdd is a times x, and y.
func MulAdd(a Nat, x, y uint64) Nat {
	a = trim(a)
	sum := make(Nat, len(a)+1)
	carry := y
	for i, w := range a {
		high, low := bits.Mul64(w, x)
		low, over := bits.Add64(low, carry, 0)
		sum[i], carry = low, high+over
	}
	sum[len(a)] = carry
	return trim(sum)
}
