package mul

import (
	"math/big"
	"math/rand"
	"slices"
	"testing"

	"quincunx/nat"
)

const top = 1<<64 - 1

// valueOf reckons a's number by layer 1's words alone.
func valueOf(a nat.Nat) *big.Int {
	bytes := make([]byte, 0, 8*len(a))
	for _, w := range slices.Backward(a) {
		for shift := 56; shift >= 0; shift -= 8 {
			bytes = append(bytes, byte(w>>shift))
		}
	}
	return new(big.Int).SetBytes(bytes)
}

// expect fails unless got is normal, and of the number want.
func expect(t *testing.T, call string, got nat.Nat, want *big.Int) {
	t.Helper()
	if len(got) > 0 && got[len(got)-1] == 0 {
		t.Fatalf("%s: %d words that aren't normal", call, len(got))
	}
	if valueOf(got).Cmp(want) != 0 {
		t.Fatalf("%s: %d words with another number", call, len(got))
	}
}

func same(t *testing.T, law string, a, b nat.Nat) {
	t.Helper()
	if !slices.Equal(a, b) {
		t.Fatalf("%s: not the same, of %d and %d words", law, len(a), len(b))
	}
}

// samples holds short naturals, normal and not.
func samples() []nat.Nat {
	return []nat.Nat{
		nil, {}, {0}, {0, 0, 0},
		{1}, {1, 0}, {2}, {7, 0, 0}, {top}, {top, 0}, {1 << 63},
		{0, 1}, {0, 1, 0}, {top, 1}, {0, top}, {top, top}, {top, top, top, 0, 0},
		{0, 0, 0, 1 << 63}, {1, 0, 1}, {0, top, 0, 1},
	}
}

// sizes holds lengths, in words, at which products are cut, and those beside
// them.
func sizes() []int {
	return []int{
		1, 2, short/2 - 1, short / 2, short - 1, short, short + 1,
		2*short - 2, 2*short - 1, 2 * short, 2*short + 1, 3*short + 1,
		4*short - 3, 4*short + 3, 500,
	}
}

// patterns holds naturals of n words each: random ones, such as make carries
// run far, such as have halves of noughts, and such as have two equal halves.
func patterns(n int) []nat.Nat {
	source := rand.New(rand.NewSource(int64(n)))
	list := make([]nat.Nat, 6)
	for i := range list {
		list[i] = make(nat.Nat, n)
	}
	half := (n + 1) / 2
	for i := range n {
		list[0][i] = source.Uint64()
		list[1][i] = top
		if i < half {
			list[2][i] = top
			list[5][i] = source.Uint64()
		} else {
			list[5][i] = list[5][i-half]
		}
		if source.Intn(3) == 0 {
			list[4][i] = top
		}
	}
	list[3][n-1] = 1
	for _, a := range list {
		a[n-1] |= 1
	}
	return list
}

// noughts is a with some noughts behind it: the same number.
func noughts(a nat.Nat, n int) nat.Nat {
	return append(slices.Clone(a), make(nat.Nat, n)...)
}
