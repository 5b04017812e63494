package nat

import (
	"math/big"
	"math/bits"
	"math/rand"
	"slices"
	"testing"
)

const top = 1<<64 - 1

// valueOf reckons a's number by the chapter's words alone.
func valueOf(a Nat) *big.Int {
	sum := new(big.Int)
	for i := len(a) - 1; i >= 0; i-- {
		sum.Lsh(sum, 64)
		sum.Add(sum, new(big.Int).SetUint64(a[i]))
	}
	return sum
}

// natOf is the normal natural of x.
func natOf(x *big.Int) Nat {
	var a Nat
	x = new(big.Int).Set(x)
	for x.Sign() > 0 {
		word := new(big.Int).And(x, new(big.Int).SetUint64(top))
		a = append(a, word.Uint64())
		x.Rsh(x, 64)
	}
	return a
}

func isNormal(a Nat) bool {
	return len(a) == 0 || a[len(a)-1] != 0
}

// expect fails unless got is the normal natural of want.
func expect(t *testing.T, call string, got Nat, want *big.Int) {
	t.Helper()
	if !slices.Equal(got, natOf(want)) {
		t.Fatalf("%s: got %v, want %v", call, got, natOf(want))
	}
}

// samples holds naturals of many lengths, normal and not, the words of which
// make carries run far.
func samples() []Nat {
	list := []Nat{
		nil, {}, {0}, {0, 0, 0},
		{1}, {1, 0}, {2}, {5, 0, 0}, {top}, {top, 0}, {top - 1}, {1 << 63},
		{0, 1}, {0, 1, 0}, {1, 1}, {top, 1}, {0, top}, {top, top}, {0, 2}, {0, 6},
		{0, 0, 1}, {top, top, top}, {top, top, top, 0, 0}, {1, 0, 1}, {0, top, 0, 1},
		{1 << 63, 1 << 63}, {0, 0, 0, 1 << 63},
	}
	source := rand.New(rand.NewSource(1))
	for range 24 {
		a := make(Nat, 1+source.Intn(7))
		for i := range a {
			a[i] = randomWord(source)
		}
		list = append(list, a)
	}
	return list
}

func randomWord(source *rand.Rand) uint64 {
	switch source.Intn(4) {
	case 0:
		return 0
	case 1:
		return top
	case 2:
		return source.Uint64() >> source.Intn(64)
	}
	return bits.Reverse64(source.Uint64() >> source.Intn(64))
}

// wordSamples holds words at which products and sums run over.
func wordSamples() []uint64 {
	return []uint64{0, 1, 2, 3, 10, 1<<32 - 1, 1 << 32, 1 << 63, 1<<63 + 1, top - 1, top}
}

// guard keeps what an argument holds, its spare room too.
type guard struct {
	arg, whole, was Nat
}

// watch is a's copy with three words of spare room that aren't 0.
func watch(a Nat) guard {
	whole := make(Nat, len(a)+3)
	for i := copy(whole, a); i < len(whole); i++ {
		whole[i] = 0xabcdef
	}
	return guard{whole[:len(a)], whole, slices.Clone(whole)}
}

func (g guard) unchanged() bool {
	return slices.Equal(g.whole, g.was)
}

// spoil overwrites an answer, and its spare room.
func spoil(a Nat) {
	a = a[:cap(a)]
	for i := range a {
		a[i] = 0x5555
	}
}
