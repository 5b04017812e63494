package div

import (
	"math/big"
	"math/rand"
	"slices"
	"testing"

	"quincunx/nat"
)

// valueOf reckons a's number by layer 1's words alone.
func valueOf(a nat.Nat) *big.Int {
	bytes := make([]byte, 8*len(a))
	for i, w := range a {
		for k := range 8 {
			bytes[len(bytes)-1-8*i-k] = byte(w >> (8 * k))
		}
	}
	return new(big.Int).SetBytes(bytes)
}

// expect fails unless got is normal, and of the number want.
func expect(t *testing.T, call string, got nat.Nat, want *big.Int) {
	t.Helper()
	if len(got) > 0 && got[len(got)-1] == 0 {
		t.Fatalf("%s: %d words that aren't normal", call, len(got))
	}
	if valueOf(got).Cmp(want) != 0 {
		t.Fatalf("%s: %d words with another number", call, len(got))
	}
}

// alike fails unless both are the same, word by word.
func alike(t *testing.T, law string, a, b nat.Nat) {
	t.Helper()
	if !slices.Equal(a, b) {
		t.Fatalf("%s: not the same, of %d and %d words", law, len(a), len(b))
	}
}

// noughts holds the ways to write 0.
func noughts() []nat.Nat {
	return []nat.Nat{nil, {}, {0}, {0, 0, 0}}
}

// words holds divisors of one word, their greatest bit set or not.
func words() []uint64 {
	return []uint64{1, 2, 3, 7, 10, 1<<32 - 1, 1 << 32, 1<<63 - 1, 1 << 63, 1<<63 + 1, top - 1, top}
}

// few holds short naturals, normal and not.
func few() []nat.Nat {
	list := append(noughts(),
		nat.Nat{5, 0, 0}, nat.Nat{top, 0}, nat.Nat{1 << 63, 0, 0, 0},
		nat.Nat{0, 1}, nat.Nat{0, 1, 0}, nat.Nat{1, 1}, nat.Nat{top, 1}, nat.Nat{0, top}, nat.Nat{0, 6},
		nat.Nat{top, top}, nat.Nat{top, top, top, 0, 0}, nat.Nat{1, 0, 1}, nat.Nat{0, top, 0, 1},
		nat.Nat{0, 0, 1 << 63}, nat.Nat{1, 1 << 63}, nat.Nat{top, top - 1, 0, 1 << 62},
	)
	for _, x := range words() {
		list = append(list, nat.Nat{x})
	}
	return list
}

// samples holds few's naturals, and some drawn ones.
func samples() []nat.Nat {
	list := few()
	source := rand.New(rand.NewSource(3))
	for range 30 {
		list = append(list, drawn(source, 1+source.Intn(8)))
	}
	return list
}

// drawn is a natural of n words, the last one not 0, many of them such as make
// guesses too great.
func drawn(source *rand.Rand, n int) nat.Nat {
	a := make(nat.Nat, n)
	for i := range a {
		switch source.Intn(8) {
		case 0:
			a[i] = 0
		case 1:
			a[i] = top
		case 2:
			a[i] = 1 << 63
		case 3:
			a[i] = source.Uint64() >> source.Intn(wordBits)
		default:
			a[i] = source.Uint64()
		}
	}
	a[n-1] = max(a[n-1], 1)
	return a
}

// longer is a with n noughts behind it: the same number.
func longer(a nat.Nat, n int) nat.Nat {
	return append(slices.Clone(a), make(nat.Nat, n)...)
}

// powerOfTwo is 2^n, be n above MaxBits or not.
func powerOfTwo(n int) nat.Nat {
	a := make(nat.Nat, n/wordBits+1)
	a[n/wordBits] = 1 << (n % wordBits)
	return a
}
