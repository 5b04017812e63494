package lehmer

import (
	"math/big"
	"math/rand"
	"slices"

	"quincunx/nat"
)

const top = 1<<64 - 1

// valueOf reckons a's number by layer 1's words alone.
func valueOf(a nat.Nat) *big.Int {
	bytes := make([]byte, 8*len(a))
	for i, w := range a {
		for k := range 8 {
			bytes[len(bytes)-1-8*i-k] = byte(w >> (8 * k))
		}
	}
	return new(big.Int).SetBytes(bytes)
}

// times is a's number x times.
func times(a nat.Nat, x uint64) *big.Int {
	return new(big.Int).Mul(valueOf(a), new(big.Int).SetUint64(x))
}

// longer is a with n noughts behind it: the same number.
func longer(a nat.Nat, n int) nat.Nat {
	return append(slices.Clone(a), make(nat.Nat, n)...)
}

// words holds words at the edges, and drawn ones.
func words() []uint64 {
	list := []uint64{0, 1, 2, 3, 7, 10, 1<<31 - 1, 1 << 31, 1<<32 - 1, 1 << 32, 1<<32 + 1, 1<<63 - 1, 1 << 63, 1<<63 + 1, top - 1, top}
	source := rand.New(rand.NewSource(3))
	for range 40 {
		list = append(list, source.Uint64()>>source.Intn(wordBits))
	}
	return list
}

// pairs holds two numbers of n words each, the greater one first, its last word
// not 0: drawn ones, next to one another or far apart.
func pairs(n int) [][2]nat.Nat {
	source := rand.New(rand.NewSource(int64(n)))
	var list [][2]nat.Nat
	for i := range 300 {
		a, b := make(nat.Nat, n), make(nat.Nat, n)
		for k := range n {
			a[k], b[k] = drawn(source), drawn(source)
		}
		if i%3 == 0 {
			b[n-1] = a[n-1]
		}
		if nat.Cmp(a, b) < 0 {
			a, b = b, a
		}
		a[n-1] = max(a[n-1], 1)
		list = append(list, [2]nat.Nat{a, b})
	}
	return list
}

func drawn(source *rand.Rand) uint64 {
	switch source.Intn(8) {
	case 0:
		return 0
	case 1:
		return top
	default:
		return source.Uint64() >> source.Intn(wordBits)
	}
}
