package zint

import (
	"math/big"
	"math/rand"
	"slices"
	"testing"

	"quincunx/nat"
)

const top = 1<<64 - 1

// valueOf reckons a's number by layer 1's words alone.
func valueOf(a Int) *big.Int {
	bytes := make([]byte, 8*len(a.A))
	for i, w := range a.A {
		for k := range 8 {
			bytes[len(bytes)-1-8*i-k] = byte(w >> (8 * k))
		}
	}
	x := new(big.Int).SetBytes(bytes)
	if a.Neg {
		x.Neg(x)
	}
	return x
}

// intOf is the normal whole number of x.
func intOf(x *big.Int) Int {
	bytes := x.FillBytes(make([]byte, 8*((x.BitLen()+63)/64)))
	a := make(nat.Nat, len(bytes)/8)
	for i := range bytes {
		k := len(bytes) - 1 - i
		a[k/8] |= uint64(bytes[i]) << (8 * (k % 8))
	}
	return Int{Neg: x.Sign() < 0, A: a}
}

// isNormal tells whether a's natural is normal, and 0 isn't below 0.
func isNormal(a Int) bool {
	if len(a.A) == 0 {
		return !a.Neg
	}
	return a.A[len(a.A)-1] != 0
}

// expect fails unless got is normal, and of the number want.
func expect(t *testing.T, call string, got Int, want *big.Int) {
	t.Helper()
	if !isNormal(got) {
		t.Fatalf("%s: %d words that aren't normal", call, len(got.A))
	}
	if valueOf(got).Cmp(want) != 0 {
		t.Fatalf("%s: %d words with another number than %.80s", call, len(got.A), want.Text(10))
	}
}

// expectNothing fails unless a stands beside false, with all its fields zero.
func expectNothing(t *testing.T, call string, ok bool, list ...Int) {
	t.Helper()
	for _, a := range list {
		if ok || a.Neg || len(a.A) > 0 {
			t.Fatal(call, a, ok)
		}
	}
}

// alike fails unless both are the same, word by word.
func alike(t *testing.T, law string, a, b Int) {
	t.Helper()
	if a.Neg != b.Neg || !slices.Equal(a.A, b.A) {
		t.Fatalf("%s: not the same, of %d and %d words", law, len(a.A), len(b.A))
	}
}

// longer is a with n noughts behind it: the same number.
func longer(a Int, n int) Int {
	return Int{Neg: a.Neg, A: append(slices.Clone(a.A), make(nat.Nat, n)...)}
}

// noughts holds the ways to write 0.
func noughts() []Int {
	var list []Int
	for _, a := range []nat.Nat{nil, {}, {0}, {0, 0, 0}} {
		list = append(list, Int{A: a}, Int{Neg: true, A: a})
	}
	return list
}

// edges holds the least and the greatest number of 64 bits, and 0, and those next
// to them, and to what a word holds.
func edges() []*big.Int {
	var list []*big.Int
	for _, n := range []uint{0, 63, 64} {
		power := new(big.Int).Lsh(big.NewInt(1), n)
		for _, d := range []int64{-2, -1, 0, 1, 2} {
			x := new(big.Int).Add(power, big.NewInt(d))
			list = append(list, x, new(big.Int).Neg(x))
		}
	}
	return list
}

// samples holds short whole numbers, normal and not, with both signs.
func samples() []Int {
	list := noughts()
	for _, a := range []nat.Nat{
		{1}, {2}, {3}, {4}, {6}, {7}, {10}, {12}, {5, 0, 0}, {top, 0}, {1 << 63, 0, 0, 0}, {0, 1}, {0, 1, 0}, {1, 1},
		{top, 1}, {0, top}, {0, 6}, {top, top}, {top, top, top, 0, 0}, {1, 0, 1}, {0, 0, 1 << 63}, {top, top - 1, 0, 1 << 62},
	} {
		list = append(list, Int{A: a}, Int{Neg: true, A: a})
	}
	for _, x := range edges() {
		list = append(list, intOf(x))
	}
	return list
}

// mixed holds samples, and longer ones that are drawn.
func mixed() []Int {
	list := samples()
	source := rand.New(rand.NewSource(5))
	for _, n := range []int{1, 1, 2, 2, 3, 5, 9, 40, 90} {
		list = append(list, drawn(source, n), drawn(source, n), longer(drawn(source, n), n))
	}
	return list
}

// drawn is a whole number of n words, the last one not 0, of either sign.
func drawn(source *rand.Rand, n int) Int {
	a := make(nat.Nat, n)
	for i := range a {
		switch source.Intn(8) {
		case 0:
			a[i] = 0
		case 1:
			a[i] = top
		default:
			a[i] = source.Uint64() >> source.Intn(64)
		}
	}
	a[n-1] = max(a[n-1], 1)
	return Int{Neg: source.Intn(2) == 0, A: a}
}

// drawnAny is a whole number of at most n words, maybe 0, and maybe not normal.
func drawnAny(source *rand.Rand, n int) Int {
	if size := source.Intn(n + 1); size > 0 {
		return longer(drawn(source, size), source.Intn(2))
	}
	return noughts()[source.Intn(len(noughts()))]
}
