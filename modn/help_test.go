package modn

import (
	"math/big"
	"math/rand"
	"slices"
	"testing"

	"quincunx/nat"
	"quincunx/zint"
)

const top = 1<<64 - 1

// valueOf reckons a's number by layer 1's words alone.
func valueOf(a zint.Int) *big.Int {
	bytes := make([]byte, 0, 8*len(a.A))
	for _, w := range slices.Backward(a.A) {
		for shift := 56; shift >= 0; shift -= 8 {
			bytes = append(bytes, byte(w>>shift))
		}
	}
	x := new(big.Int).SetBytes(bytes)
	if a.Neg {
		x.Neg(x)
	}
	return x
}

// intOf is the normal whole number of x.
func intOf(x *big.Int) zint.Int {
	bytes := x.FillBytes(make([]byte, 8*((x.BitLen()+63)/64)))
	a := make(nat.Nat, len(bytes)/8)
	for i := range bytes {
		k := len(bytes) - 1 - i
		a[k/8] |= uint64(bytes[i]) << (8 * (k % 8))
	}
	return zint.Int{Neg: x.Sign() < 0, A: a}
}

// isNormal tells whether a's natural is normal, and 0 isn't below 0.
func isNormal(a zint.Int) bool {
	if len(a.A) == 0 {
		return !a.Neg
	}
	return a.A[len(a.A)-1] != 0
}

// expect fails unless got is normal, and of the number want.
func expect(t *testing.T, call string, got zint.Int, want *big.Int) {
	t.Helper()
	if !isNormal(got) {
		t.Fatalf("%s: %d words that aren't normal", call, len(got.A))
	}
	if valueOf(got).Cmp(want) != 0 {
		t.Fatalf("%s: %.80s, and not %.80s", call, valueOf(got).Text(10), want.Text(10))
	}
}

// expectNothing fails unless a stands beside false, with all its fields zero.
func expectNothing(t *testing.T, call string, a zint.Int, ok bool) {
	t.Helper()
	if ok || a.Neg || len(a.A) > 0 {
		t.Fatal(call, a, ok)
	}
}

// alike fails unless both are the same, word by word.
func alike(t *testing.T, law string, a, b zint.Int) {
	t.Helper()
	if a.Neg != b.Neg || !slices.Equal(a.A, b.A) {
		t.Fatalf("%s: not the same: %.80s, %.80s", law, valueOf(a).Text(10), valueOf(b).Text(10))
	}
}

// longer is a with n noughts behind it: the same number.
func longer(a zint.Int, n int) zint.Int {
	return zint.Int{Neg: a.Neg, A: append(slices.Clone(a.A), make(nat.Nat, n)...)}
}

// noughts holds the ways to write 0.
func noughts() []zint.Int {
	var list []zint.Int
	for _, a := range []nat.Nat{nil, {}, {0}, {0, 0, 0}} {
		list = append(list, zint.Int{A: a}, zint.Int{Neg: true, A: a})
	}
	return list
}

// samples holds short whole numbers, normal and not, with both signs.
func samples() []zint.Int {
	list := noughts()
	for _, a := range []nat.Nat{
		{1}, {1, 0, 0}, {2}, {3}, {4}, {6}, {7, 0}, {12}, {30}, {1 << 31}, {1<<31 - 1}, {1 << 63}, {1 << 63, 0}, {top},
		{top - 58, 0, 0}, {0, 1}, {1, 1, 0}, {top, top}, {0, 6}, {0, top, 0, 0}, {5, 0, 1}, {top, top - 1, 0, 1 << 62},
	} {
		list = append(list, zint.Int{A: a}, zint.Int{Neg: true, A: a})
	}
	return list
}

// mixed holds samples, and longer ones that are drawn.
func mixed() []zint.Int {
	list := samples()
	source := rand.New(rand.NewSource(6))
	for _, n := range []int{1, 2, 2, 3, 5, 9} {
		list = append(list, drawn(source, n), longer(drawn(source, n), 2))
	}
	return list
}

// moduli holds those of mixed that are above 0.
func moduli() []zint.Int {
	return slices.DeleteFunc(mixed(), func(a zint.Int) bool { return valueOf(a).Sign() <= 0 })
}

// noModuli holds those of mixed that are 0, or below 0.
func noModuli() []zint.Int {
	return slices.DeleteFunc(mixed(), func(a zint.Int) bool { return valueOf(a).Sign() > 0 })
}

// drawn is a whole number of n words, the last one not 0, of either sign.
func drawn(source *rand.Rand, n int) zint.Int {
	a := make(nat.Nat, n)
	for i := range a {
		switch source.Intn(8) {
		case 0:
			a[i] = 0
		case 1:
			a[i] = top
		default:
			a[i] = source.Uint64() >> source.Intn(64)
		}
	}
	a[n-1] = max(a[n-1], 1)
	return zint.Int{Neg: source.Intn(2) == 0, A: a}
}

// drawnModulus is a modulus of at most n words, maybe not normal.
func drawnModulus(source *rand.Rand, n int) zint.Int {
	m := drawn(source, 1+source.Intn(n))
	m.Neg = false
	return longer(m, source.Intn(2))
}
