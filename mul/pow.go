package mul

import (
	"math/bits"

	"quincunx/api"
	"quincunx/nat"
)

// Pow is a to the n; false, if n is below 0, or the power might be too great.
func Pow(a nat.Nat, n int) (nat.Nat, bool) {
	if n < 0 || aboveMaxBits(nat.Bits(a), n) {
		return nil, false
	}
	power := nat.Of(1)
	for i := bits.Len(uint(n)) - 1; i >= 0; i-- {
		power = Square(power)
		if n>>i&1 == 1 {
			power = Mul(power, a)
		}
	}
	return power, true
}

// aboveMaxBits tells whether n times size is above MaxBits. It divides, as the
// product may be above the greatest int.
func aboveMaxBits(size, n int) bool {
	return size > 0 && n > api.MaxBits/size
}
