package rat_test

import (
	"math/big"
	"math/rand"
	"slices"
	"testing"

	"quincunx/nat"
	"quincunx/rat"
	"quincunx/zint"
)

const top = 1<<64 - 1

// valueOf reckons a's number by layer 1's words alone.
func valueOf(a zint.Int) *big.Int {
	bytes := make([]byte, 0, 8*len(a.A))
	for _, w := range slices.Backward(a.A) {
		for shift := 56; shift >= 0; shift -= 8 {
			bytes = append(bytes, byte(w>>shift))
		}
	}
	x := new(big.Int).SetBytes(bytes)
	if a.Neg {
		x.Neg(x)
	}
	return x
}

// intOf is the normal whole number of x.
func intOf(x *big.Int) zint.Int {
	bytes := x.FillBytes(make([]byte, 8*((x.BitLen()+63)/64)))
	a := make(nat.Nat, len(bytes)/8)
	for i := range bytes {
		k := len(bytes) - 1 - i
		a[k/8] |= uint64(bytes[i]) << (8 * (k % 8))
	}
	return zint.Int{Neg: x.Sign() < 0, A: a}
}

// numberOf is what a counts as: 0, if its D is 0.
func numberOf(a rat.Rat) *big.Rat {
	n, d := valueOf(a.N), valueOf(a.D)
	if d.Sign() == 0 {
		return new(big.Rat)
	}
	return new(big.Rat).SetFrac(n, d)
}

func isNormalInt(a zint.Int) bool {
	if len(a.A) == 0 {
		return !a.Neg
	}
	return a.A[len(a.A)-1] != 0
}

// isNormal tells whether both numbers of a are normal, D is above 0, and nothing but
// 1 divides both.
func isNormal(a rat.Rat) bool {
	n, d := valueOf(a.N), valueOf(a.D)
	common := new(big.Int).GCD(nil, nil, new(big.Int).Abs(n), d)
	return isNormalInt(a.N) && isNormalInt(a.D) && d.Sign() > 0 && common.Cmp(big.NewInt(1)) == 0
}

// expect fails unless got is normal, and of the number want.
func expect(t *testing.T, call string, got rat.Rat, want *big.Rat) {
	t.Helper()
	if !isNormal(got) {
		t.Fatalf("%s: %.80s over %.80s isn't normal", call, valueOf(got.N), valueOf(got.D))
	}
	if numberOf(got).Cmp(want) != 0 {
		t.Fatalf("%s: %.80s, and not %.80s", call, numberOf(got), want)
	}
}

// expectInt fails unless got is normal, and of the number want.
func expectInt(t *testing.T, call string, got zint.Int, want *big.Int) {
	t.Helper()
	if !isNormalInt(got) || valueOf(got).Cmp(want) != 0 {
		t.Fatalf("%s: %.80s, and not %.80s, or not normal", call, valueOf(got), want)
	}
}

// expectNone fails unless a is 0 over 1, beside false.
func expectNone(t *testing.T, call string, a rat.Rat, ok bool) {
	t.Helper()
	if ok || a.N.Neg || len(a.N.A) > 0 || a.D.Neg || !slices.Equal(a.D.A, nat.Nat{1}) {
		t.Fatal(call, a, ok)
	}
}

// alike fails unless both are the same, word by word.
func alike(t *testing.T, law string, a, b rat.Rat) {
	t.Helper()
	if !sameInts(listOf(a), listOf(b)) {
		t.Fatalf("%s: not the same: %.80s, %.80s", law, numberOf(a), numberOf(b))
	}
}

func listOf(a rat.Rat) []zint.Int {
	return []zint.Int{a.N, a.D}
}

func sameInts(a, b []zint.Int) bool {
	return slices.EqualFunc(a, b, func(x, y zint.Int) bool { return x.Neg == y.Neg && slices.Equal(x.A, y.A) })
}

// over is n over d as it stands.
func over(n, d int64) rat.Rat {
	return rat.Rat{N: zint.Of(n), D: zint.Of(d)}
}

// ofBig is the normal fraction of x.
func ofBig(x *big.Rat) rat.Rat {
	return rat.Rat{N: intOf(x.Num()), D: intOf(x.Denom())}
}

// longer is a with n noughts behind it: the same number.
func longer(a zint.Int, n int) zint.Int {
	return zint.Int{Neg: a.Neg, A: append(slices.Clone(a.A), make(nat.Nat, n)...)}
}

// times is a with N and D so many times: the same number, if that isn't 0.
func times(a rat.Rat, x zint.Int) rat.Rat {
	return rat.Rat{N: zint.Mul(a.N, x), D: zint.Mul(a.D, x)}
}

// forms holds other ways to write a's number: none of them is normal.
func forms(a rat.Rat) []rat.Rat {
	long := zint.Int{Neg: true, A: nat.Nat{6, top, 0, 5}}
	list := []rat.Rat{
		{N: longer(a.N, 2), D: a.D}, {N: a.N, D: longer(a.D, 1)}, times(a, zint.Of(-1)), times(a, zint.Of(2)), times(a, zint.Of(-15)), times(a, long),
	}
	last := times(a, zint.Of(-21))
	list = append(list, rat.Rat{N: longer(last.N, 3), D: longer(last.D, 2)})
	if zint.Sign(a.N) == 0 || zint.Sign(a.D) == 0 {
		return append(list, noughts()...)
	}
	return list
}

// noughtInts holds the ways to write 0 as a whole number.
func noughtInts() []zint.Int {
	var list []zint.Int
	for _, a := range []nat.Nat{nil, {}, {0}, {0, 0, 0}} {
		list = append(list, zint.Int{A: a}, zint.Int{Neg: true, A: a})
	}
	return list
}

// noughts holds ways to write 0: N is it, or D, or both are.
func noughts() []rat.Rat {
	var list []rat.Rat
	for i, a := range noughtInts() {
		for _, x := range []int64{1, -1, 2, -6, 1 << 62} {
			list = append(list, rat.Rat{N: a, D: zint.Of(x)}, rat.Rat{N: longer(zint.Of(x), i%3), D: a})
		}
		list = append(list, rat.Rat{N: a, D: a}, rat.Rat{N: a, D: noughtInts()[len(noughtInts())-1-i]})
		list = append(list, rat.Rat{N: zint.Int{A: nat.Nat{0, top, 7}}, D: a}, rat.Rat{N: a, D: zint.Int{Neg: true, A: nat.Nat{0, top, 7}}})
	}
	return list
}

// halves holds whole numbers, halves, and what is next to both, on both sides of 0.
func halves() []rat.Rat {
	var list []rat.Rat
	for n := int64(-7); n <= 7; n++ {
		list = append(list, over(n, 1), over(n, 2), over(-2*n, -4), over(n, 3), over(1000*n+1, 2000), over(1000*n-1, 2000))
	}
	return list
}

// samples holds short fractions, normal and not, with all pairs of signs.
func samples() []rat.Rat {
	list := []rat.Rat{{}, over(0, 1), over(0, -3), over(5, 0), over(-5, 0), {N: zint.Int{Neg: true, A: nat.Nat{0}}, D: longer(zint.Of(4), 1)}}
	for _, c := range [][2]int64{{1, 1}, {1, 2}, {2, 3}, {3, 2}, {6, 4}, {7, 7}, {12, 4}, {5, 12}, {1 << 62, 3}, {3, 1 << 62}} {
		list = append(list, over(c[0], c[1]), over(-c[0], c[1]), over(c[0], -c[1]), over(-c[0], -c[1]))
	}
	for _, c := range [][2]nat.Nat{
		{{0, 1}, {top}}, {{top}, {0, 1}}, {{top, top}, {top}}, {{6, 0, 0}, {4, 0}}, {{0, 0, 1}, {0, 1}}, {{0, 1}, {0, 0, 1, 0}}, {{1, 1}, {1, 0, 1}},
	} {
		list = append(list, rat.Rat{N: zint.Int{A: c[0]}, D: zint.Int{A: c[1]}}, rat.Rat{N: zint.Int{Neg: true, A: c[0]}, D: zint.Int{A: c[1]}})
		list = append(list, rat.Rat{N: zint.Int{A: c[0]}, D: zint.Int{Neg: true, A: c[1]}})
	}
	return list
}

// mixed holds samples, and longer ones that are drawn.
func mixed() []rat.Rat {
	list := samples()
	source := rand.New(rand.NewSource(7))
	for _, n := range []int{1, 1, 2, 3, 5, 9, 30} {
		a := drawn(source, n)
		list = append(list, a, rat.Rat{N: a.D, D: longer(a.N, 1)})
	}
	return list
}

// others holds those of mixed that aren't 0.
func others() []rat.Rat {
	return slices.DeleteFunc(mixed(), func(a rat.Rat) bool { return numberOf(a).Sign() == 0 })
}

// drawnInt is a whole number of n words, the last one not 0, of either sign.
func drawnInt(source *rand.Rand, n int) zint.Int {
	a := make(nat.Nat, n)
	for i := range a {
		switch source.Intn(8) {
		case 0:
			a[i] = 0
		case 1:
			a[i] = top
		default:
			a[i] = source.Uint64() >> source.Intn(64)
		}
	}
	a[n-1] = max(a[n-1], 1)
	return zint.Int{Neg: source.Intn(2) == 0, A: a}
}

// drawn is a fraction of numbers of at most n words, neither of them 0, maybe with a
// common divisor, and maybe with noughts behind.
func drawn(source *rand.Rand, n int) rat.Rat {
	a := rat.Rat{N: drawnInt(source, 1+source.Intn(n)), D: drawnInt(source, 1+source.Intn(n))}
	switch source.Intn(4) {
	case 0:
		a = times(a, drawnInt(source, 1))
	case 1:
		a.N = longer(a.N, source.Intn(2))
		a.D = longer(a.D, source.Intn(2))
	}
	return a
}

// drawnAny is drawn, or a fraction that counts as 0.
func drawnAny(source *rand.Rand, n int) rat.Rat {
	if source.Intn(10) == 0 {
		return noughts()[source.Intn(len(noughts()))]
	}
	return drawn(source, n)
}
