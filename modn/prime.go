package modn

import (
	"math/bits"

	"quincunx/api"
)

// Prime tells whether p is a prime below MaxPrime. The least number that is none,
// and which all four bases take for one, is 3215031751: above MaxPrime.
func Prime(p uint64) bool {
	if p < 2 || p >= api.MaxPrime {
		return false
	}
	for _, base := range [...]uint64{2, 3, 5, 7} {
		if p%base == 0 {
			return p == base
		}
		if !looksPrime(p, base) {
			return false
		}
	}
	return true
}

// looksPrime is Miller and Rabin's way, of an odd p below 2^32 that doesn't divide
// the base. Of a prime, the base to the p - 1 is 1, and 1 has no roots but 1 and -1:
// so that the power of the odd part of p - 1 is 1, or comes to -1 by squares.
func looksPrime(p, base uint64) bool {
	twos := bits.TrailingZeros64(p - 1)
	x := powerOfWord(base, (p-1)>>twos, p)
	if x == 1 {
		return true
	}
	for range twos {
		if x == p-1 {
			return true
		}
		x = x * x % p
	}
	return false
}

// powerOfWord is a to the e's rest by m, which is below 2^32, as a is: so that
// products are words.
func powerOfWord(a, e, m uint64) uint64 {
	rest := uint64(1)
	for ; e > 0; e >>= 1 {
		if e&1 == 1 {
			rest = rest * a % m
		}
		a = a * a % m
	}
	return rest
}

// Next is the least prime above p that is below MaxPrime; false, if there is none.
func Next(p uint64) (uint64, bool) {
	for p < api.MaxPrime-1 {
		p++
		if Prime(p) {
			return p, true
		}
	}
	return 0, false
}
