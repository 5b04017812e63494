package modhnf_test

import (
	"fmt"
	"math"
	"math/big"
	"math/rand"
	"slices"
	"testing"

	"quincunx/api"
	"quincunx/nat"
	"quincunx/zint"
	"quincunx/zmat"
)

const (
	top  = 1<<64 - 1
	most = 64
)

// valueOf reckons a's number by layer 1's words alone.
func valueOf(a zint.Int) *big.Int {
	bytes := make([]byte, 0, 8*len(a.A))
	for _, w := range slices.Backward(a.A) {
		for shift := 56; shift >= 0; shift -= 8 {
			bytes = append(bytes, byte(w>>shift))
		}
	}
	x := new(big.Int).SetBytes(bytes)
	if a.Neg {
		x.Neg(x)
	}
	return x
}

// intOf is the normal whole number of x.
func intOf(x *big.Int) zint.Int {
	bytes := x.FillBytes(make([]byte, 8*((x.BitLen()+63)/64)))
	a := make(nat.Nat, len(bytes)/8)
	for i := range bytes {
		k := len(bytes) - 1 - i
		a[k/8] |= uint64(bytes[i]) << (8 * (k % 8))
	}
	return zint.Int{Neg: x.Sign() < 0, A: a}
}

// small is the number of x, told by its word.
func small(x int64) zint.Int {
	return intOf(big.NewInt(x))
}

// long is a number of several words, of either sign.
func long(isNeg bool, words ...uint64) zint.Int {
	return zint.Int{Neg: isNeg, A: words}
}

// longer is a with n noughts behind it: the same number.
func longer(a zint.Int, n int) zint.Int {
	return zint.Int{Neg: a.Neg, A: append(slices.Clone(a.A), make(nat.Nat, n)...)}
}

// noughtInts holds the ways to write 0 as a number.
func noughtInts() []zint.Int {
	var list []zint.Int
	for _, a := range []nat.Nat{nil, {}, {0}, {0, 0, 0}} {
		list = append(list, zint.Int{A: a}, zint.Int{Neg: true, A: a})
	}
	return list
}

// mat is the matrix of these numbers, as it stands.
func mat(r, c int, l ...int64) zmat.Mat {
	out := zmat.Mat{R: r, C: c}
	for _, x := range l {
		out.A = append(out.A, small(x))
	}
	return out
}

// ints is the matrix of these numbers, as it stands.
func ints(r, c int, l ...zint.Int) zmat.Mat {
	return zmat.Mat{R: r, C: c, A: l}
}

// isFormed holds a's sides against what its list has, without a product.
func isFormed(a zmat.Mat) bool {
	if min(a.R, a.C) < 0 || max(a.R, a.C) > most {
		return false
	}
	left := len(a.A)
	for range a.R {
		left -= a.C
	}
	return left == 0
}

func isNormalInt(a zint.Int) bool {
	if len(a.A) == 0 {
		return !a.Neg
	}
	return a.A[len(a.A)-1] != 0
}

func isNormal(a zmat.Mat) bool {
	return isFormed(a) && !slices.ContainsFunc(a.A, func(x zint.Int) bool { return !isNormalInt(x) })
}

// brief is how x is told where a test fails, without what is too long.
func brief(x any) string {
	text := fmt.Sprint(x)
	return text[:min(len(text), 300)]
}

// expectTable fails unless got is normal, and of the table want.
func expectTable(t *testing.T, call string, got zmat.Mat, e api.Errno, want table) {
	t.Helper()
	if e != api.OK || !isNormal(got) || !tableOf(got).same(want) {
		t.Fatal(call, e, brief(got), "and not", brief(want))
	}
}

// expectError fails unless that error is answered.
func expectError(t *testing.T, call string, e, want api.Errno) {
	t.Helper()
	if e != want {
		t.Fatal(call, e, "and not", want)
	}
}

// expectInt fails unless got is normal, and the number want.
func expectInt(t *testing.T, call string, got zint.Int, e api.Errno, want *big.Int) {
	t.Helper()
	if e != api.OK || !isNormalInt(got) || valueOf(got).Cmp(want) != 0 {
		t.Fatal(call, e, brief(got), "and not", brief(want))
	}
}

// expectNoInt fails unless that error is answered, and a number whose fields are zero.
func expectNoInt(t *testing.T, call string, got zint.Int, e, want api.Errno) {
	t.Helper()
	expectError(t, call, e, want)
	if got.Neg || len(got.A) != 0 {
		t.Fatal(call, "beside an error:", brief(got))
	}
}

// expectNoMat fails unless that error is answered, and a matrix whose fields are zero.
func expectNoMat(t *testing.T, call string, got zmat.Mat, e, want api.Errno) {
	t.Helper()
	expectError(t, call, e, want)
	if got.R != 0 || got.C != 0 || len(got.A) != 0 {
		t.Fatal(call, "beside an error:", brief(got))
	}
}

// must is the matrix of a call that answers no error.
func must(t *testing.T) func(a zmat.Mat, e api.Errno) zmat.Mat {
	return func(a zmat.Mat, e api.Errno) zmat.Mat {
		t.Helper()
		if e != api.OK {
			t.Fatal("the error", e)
		}
		return a
	}
}

// fives is n numbers that aren't 0.
func fives(n int) []zint.Int {
	return slices.Repeat([]zint.Int{small(5)}, n)
}

// unformed holds matrices that aren't formed: of sides that can't be, of too few
// numbers and too many, and of sides whose product runs over to what there is.
func unformed() []zmat.Mat {
	list := []zmat.Mat{
		{R: -1}, {C: -1}, {R: -1, C: -1}, {R: -1, C: -1, A: fives(1)}, {R: -2, C: -2, A: fives(4)}, {R: -2, C: -3, A: fives(6)}, {R: -1, C: 1, A: fives(1)}, {R: 0, C: -3}, {R: -3, C: 0},
		{R: most + 1}, {C: most + 1}, {R: most + 1, C: 1, A: fives(most + 1)}, {R: 1, C: most + 1, A: fives(most + 1)}, {R: most + 1, C: most + 1}, {R: most + 1, C: most + 1, A: fives((most + 1) * (most + 1))},
		{R: 1 << 32, C: 1 << 32}, {R: 1 << 62, C: 4}, {R: math.MinInt, C: math.MinInt}, {R: math.MinInt}, {C: math.MinInt}, {R: math.MaxInt, C: math.MaxInt, A: fives(1)}, {R: math.MaxInt}, {C: math.MaxInt},
		{R: 1, C: 1}, {R: 2, C: 2}, {R: 2, C: 2, A: fives(3)}, {R: 2, C: 2, A: fives(5)}, {R: 2, C: 3, A: fives(5)}, {R: 3, C: 2, A: fives(7)}, {R: 1, C: 1, A: fives(2)},
		{A: fives(1)}, {A: noughtInts()[:1]}, {R: 0, C: 3, A: fives(1)}, {R: 3, C: 0, A: fives(3)}, {R: 3, C: 3, A: noughtInts()}, {R: most, C: most, A: fives(most*most - 1)}, {R: most, C: most, A: fives(most*most + 1)},
	}
	return append(list, zmat.Mat{R: 2, C: 2, A: fives(4)[:3]})
}

// samples holds formed matrices of many sides and ranks, with numbers of one word and
// of several, 0 among them, normal and not; some are in Hermite's form.
func samples() []zmat.Mat {
	noughts := noughtInts()
	list := []zmat.Mat{
		{}, {A: []zint.Int{}}, {C: 1}, {R: 1}, {C: 3}, {R: 3}, {C: 2, A: []zint.Int{}}, {R: most}, {C: most},
		mat(1, 1, 0), mat(1, 1, 1), mat(1, 1, -1), mat(1, 1, -12), ints(1, 1, noughts[7]), ints(1, 1, long(true, 0, 0, 1, 0)), mat(1, 1, math.MinInt64),
		mat(1, 2, 3, -4), mat(2, 1, -3, 4), mat(2, 1, 4, 6), mat(3, 1, 6, 10, 15), mat(3, 1, 0, 5, 0), mat(4, 1, -6, 0, 9, -3), mat(1, 3, 0, 0, -2), ints(1, 8, noughts...), ints(8, 1, noughts...), ints(2, 4, noughts...), ints(2, 2, noughts[4:]...),
		mat(2, 2, 1, 2, 3, 4), mat(2, 2, 0, 1, 1, 0), mat(2, 2, 1, 0, 0, 1), mat(2, 2, 2, -4, -1, 2), mat(2, 2, 0, 0, 5, 7), mat(2, 2, 0, -3, 0, 5), mat(2, 2, 6, 1, 4, 1), mat(2, 2, math.MinInt64, math.MaxInt64, math.MaxInt64, math.MinInt64), mat(2, 2, 0, 0, 0, 0),
		mat(2, 3, 1, 2, 3, 4, 5, 6), mat(3, 2, 1, 0, 0, 1, 1, 1), mat(2, 3, 0, 0, 0, -7, 0, 7), mat(2, 3, 0, 2, 4, 0, 3, 5), mat(2, 3, 2, 1, 0, 0, 3, 5), mat(3, 3, 1, 2, 3, 4, 5, 6, 7, 8, 9), mat(3, 3, 0, 0, 1, 1, 0, 0, 0, 1, 0), mat(3, 2, 0, 0, 0, 0, 0, 0),
		mat(3, 3, 2, 3, 6, 2, 5, 6, 16, 5, 18), mat(3, 3, 2, 1, 4, 0, 3, 2, 0, 0, 5), mat(3, 3, 0, 2, 1, 0, 0, 3, 0, 0, 0), mat(3, 3, 0, 1, 2, 0, 3, 4, 0, 5, 6), mat(3, 3, 1, 2, 3, 2, 4, 6, -3, -6, -9), mat(3, 3, 0, 0, 0, 0, 0, 0, 0, 0, -9),
		mat(4, 4, 0, 2, 0, 0, 1, 0, 0, 0, 0, 0, 0, 3, 0, 0, 5, 0), mat(4, 4, 1, 2, 3, 4, 2, 4, 6, 8, 1, 2, 4, 4, 0, 0, 1, 0), mat(4, 4, 6, 0, 0, 0, 0, 10, 0, 0, 0, 0, 15, 0, 1, 1, 1, 1), mat(5, 2, 4, 6, 6, 4, 10, 10, -4, 2, 8, 8),
		ints(2, 2, long(false, 0, 1), long(true, top, top), long(true, 5, 0), long(false, 0, 0, 1)), ints(3, 2, long(true, 3, 0, 0), long(true), long(false, 7, 2, 0), long(true, 0, 0), long(false, top), long(true, top)),
		ints(2, 3, long(false, 1<<63), long(true, 1<<63), long(false, 1, 0, 3), long(true, 0), long(true, 1, 0), long(true, 0, 0, 0)), ints(1, 2, long(true, top, top, top), long(false, 1, 1)), ints(2, 1, long(true, 0, 0, 6), long(true, 0, 4, 0)),
	}
	source := rand.New(rand.NewSource(161))
	for _, side := range [][2]int{{4, 3}, {3, 4}, {4, 4}, {5, 5}, {5, 1}, {1, 5}, {6, 6}, {7, 3}, {3, 7}} {
		list = append(list, drawn(source, side[0], side[1], 3), drawnOfRank(source, side[0], side[1], min(side[0], side[1])-1, 2), matOf(drawnForm(source, side[0], side[1])))
	}
	return list
}

// written is a with each number longer, and noughts of all kinds in the place of those
// that are 0, from the one of that place on.
func written(a zmat.Mat, from int) zmat.Mat {
	out := zmat.Mat{R: a.R, C: a.C}
	for i, number := range a.A {
		other := longer(number, (i+from)%3)
		if valueOf(number).Sign() == 0 {
			other = noughtInts()[(i+from)%8]
		}
		out.A = append(out.A, other)
	}
	return out
}

// forms holds ways to write a formed matrix.
func forms(a zmat.Mat) []zmat.Mat {
	list := []zmat.Mat{matOf(tableOf(a)), a}
	for from := range 8 {
		list = append(list, written(a, from))
	}
	return list
}

// drawnInt is a whole number of at most n words, of either sign, maybe 0, and maybe
// not normal.
func drawnInt(source *rand.Rand, n int) zint.Int {
	a := make(nat.Nat, source.Intn(n+1))
	for i := range a {
		switch source.Intn(8) {
		case 0:
			a[i] = 0
		case 1:
			a[i] = top
		case 2, 3:
			a[i] = uint64(source.Intn(12))
		default:
			a[i] = source.Uint64() >> source.Intn(64)
		}
	}
	return zint.Int{Neg: source.Intn(2) == 0, A: a}
}

// drawn is a matrix of numbers of at most so many words.
func drawn(source *rand.Rand, r, c, words int) zmat.Mat {
	out := zmat.Mat{R: r, C: c}
	for range r * c {
		out.A = append(out.A, drawnInt(source, words))
	}
	return out
}

// drawnNext is a matrix of numbers that lie next to 0, many of them 0.
func drawnNext(source *rand.Rand, r, c int) zmat.Mat {
	out := zmat.Mat{R: r, C: c}
	for range r * c {
		out.A = append(out.A, small(int64(source.Intn(5)-2)*int64(source.Intn(2))))
	}
	return out
}

// drawnOfRank is a product whose rank isn't above n.
func drawnOfRank(source *rand.Rand, r, c, n, words int) zmat.Mat {
	return matOf(productOf(tableOf(drawn(source, r, n, words)), tableOf(drawn(source, n, c, words))))
}
