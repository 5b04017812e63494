// Package nat is layer 1, natural numbers: see shared/doc/01-nat.md.
package nat

// Nat is a natural: words of 64 bits, the least significant first.
type Nat []uint64

// Of is the natural x.
func Of(x uint64) Nat {
	return trim(Nat{x})
}

// Norm is the normal natural of a's number.
func Norm(a Nat) Nat {
	a = trim(a)
	own := make(Nat, len(a))
	copy(own, a)
	return own
}

// Word is a's number, if one word holds it.
func Word(a Nat) (uint64, bool) {
	a = trim(a)
	switch len(a) {
	case 0:
		return 0, true
	case 1:
		return a[0], true
	}
	return 0, false
}

// Cmp is -1, 0 or 1, as a is less than b, the same, or greater.
func Cmp(a, b Nat) int {
	a, b = trim(a), trim(b)
	if len(a) != len(b) {
		return order(len(a) < len(b))
	}
	for i := len(a) - 1; i >= 0; i-- {
		if a[i] != b[i] {
			return order(a[i] < b[i])
		}
	}
	return 0
}

// order is Cmp's answer for two that differ.
func order(less bool) int {
	if less {
		return -1
	}
	return 1
}

// trim is a without the noughts at its end. It shares a's words, so that it
// is an answer only where a is new memory already.
func trim(a Nat) Nat {
	n := len(a)
	for n > 0 && a[n-1] == 0 {
		n--
	}
	return a[:n]
}
