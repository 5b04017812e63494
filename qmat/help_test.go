package qmat_test

import (
	"math"
	"math/big"
	"math/rand"
	"slices"
	"testing"

	"quincunx/api"
	"quincunx/nat"
	"quincunx/qmat"
	"quincunx/rat"
	"quincunx/zint"
	"quincunx/zmat"
)

const (
	top  = 1<<64 - 1
	most = 64
)

// valueOf reckons a's number by layer 1's words alone.
func valueOf(a zint.Int) *big.Int {
	bytes := make([]byte, 0, 8*len(a.A))
	for _, w := range slices.Backward(a.A) {
		for shift := 56; shift >= 0; shift -= 8 {
			bytes = append(bytes, byte(w>>shift))
		}
	}
	x := new(big.Int).SetBytes(bytes)
	if a.Neg {
		x.Neg(x)
	}
	return x
}

// intOf is the normal whole number of x.
func intOf(x *big.Int) zint.Int {
	bytes := x.FillBytes(make([]byte, 8*((x.BitLen()+63)/64)))
	a := make(nat.Nat, len(bytes)/8)
	for i := range bytes {
		k := len(bytes) - 1 - i
		a[k/8] |= uint64(bytes[i]) << (8 * (k % 8))
	}
	return zint.Int{Neg: x.Sign() < 0, A: a}
}

// small is the number of x, told by its word.
func small(x int64) zint.Int {
	return intOf(big.NewInt(x))
}

// long is a number of several words, of either sign.
func long(isNeg bool, words ...uint64) zint.Int {
	return zint.Int{Neg: isNeg, A: words}
}

// longer is a with n noughts behind it: the same number.
func longer(a zint.Int, n int) zint.Int {
	return zint.Int{Neg: a.Neg, A: append(slices.Clone(a.A), make(nat.Nat, n)...)}
}

// noughtInts holds the ways to write 0 as a whole number.
func noughtInts() []zint.Int {
	var list []zint.Int
	for _, a := range []nat.Nat{nil, {}, {0}, {0, 0, 0}} {
		list = append(list, zint.Int{A: a}, zint.Int{Neg: true, A: a})
	}
	return list
}

// numberOf is what a counts as: 0, if its D is 0.
func numberOf(a rat.Rat) *big.Rat {
	n, d := valueOf(a.N), valueOf(a.D)
	if d.Sign() == 0 {
		return new(big.Rat)
	}
	return new(big.Rat).SetFrac(n, d)
}

// ratOf is the normal fraction of x.
func ratOf(x *big.Rat) rat.Rat {
	return rat.Rat{N: intOf(x.Num()), D: intOf(x.Denom())}
}

// over is n over d as it stands.
func over(n, d int64) rat.Rat {
	return rat.Rat{N: small(n), D: small(d)}
}

// times is a with N and D so many times: the same number, if that isn't 0.
func times(a rat.Rat, x zint.Int) rat.Rat {
	product := func(y zint.Int) zint.Int { return intOf(new(big.Int).Mul(valueOf(y), valueOf(x))) }
	return rat.Rat{N: product(a.N), D: product(a.D)}
}

// noughts holds ways to write 0: N is it, or D, or both are.
func noughts() []rat.Rat {
	list := []rat.Rat{{}, over(0, 1), over(0, -3), over(5, 0), over(-5, 0), {N: long(true, top, 7), D: long(true, 0, 0)}}
	for i, a := range noughtInts() {
		list = append(list, rat.Rat{N: a, D: small(int64(i - 11))}, rat.Rat{N: longer(small(int64(5-i)), i%3), D: a}, rat.Rat{N: a, D: a})
	}
	return list
}

// qmatBy asks for each place's number.
func qmatBy(r, c int, number func(i, k int) rat.Rat) qmat.Mat {
	out := qmat.Mat{R: r, C: c}
	for i := range r {
		for k := range c {
			out.A = append(out.A, number(i, k))
		}
	}
	return out
}

// whole is the matrix of these whole numbers.
func whole(r, c int, l ...int64) qmat.Mat {
	out := qmat.Mat{R: r, C: c}
	for _, x := range l {
		out.A = append(out.A, over(x, 1))
	}
	return out
}

// parts is the matrix of these whole numbers over d.
func parts(d int64, r, c int, l ...int64) qmat.Mat {
	out := qmat.Mat{R: r, C: c}
	for _, x := range l {
		out.A = append(out.A, ratOf(big.NewRat(x, d)))
	}
	return out
}

// rats is the matrix of these fractions, as it stands.
func rats(r, c int, l ...rat.Rat) qmat.Mat {
	return qmat.Mat{R: r, C: c, A: l}
}

// isFormed holds sides against what a list has, without a product.
func isFormed(r, c, n int) bool {
	if min(r, c) < 0 || max(r, c) > most {
		return false
	}
	for range r {
		n -= c
	}
	return n == 0
}

func isNormalInt(a zint.Int) bool {
	if len(a.A) == 0 {
		return !a.Neg
	}
	return a.A[len(a.A)-1] != 0
}

// isNormalRat tells whether both numbers are normal, D is above 0, and nothing but 1
// divides both.
func isNormalRat(a rat.Rat) bool {
	n, d := valueOf(a.N), valueOf(a.D)
	common := new(big.Int).GCD(nil, nil, new(big.Int).Abs(n), new(big.Int).Abs(d))
	return isNormalInt(a.N) && isNormalInt(a.D) && d.Sign() > 0 && common.IsInt64() && common.Int64() == 1
}

func isNormal(a qmat.Mat) bool {
	return isFormed(a.R, a.C, len(a.A)) && !slices.ContainsFunc(a.A, func(x rat.Rat) bool { return !isNormalRat(x) })
}

func isNormalWhole(a zmat.Mat) bool {
	return isFormed(a.R, a.C, len(a.A)) && !slices.ContainsFunc(a.A, func(x zint.Int) bool { return !isNormalInt(x) })
}

// expectRat fails unless got is normal, and that number.
func expectRat(t *testing.T, call string, got rat.Rat, want *big.Rat) {
	t.Helper()
	if !isNormalRat(got) || numberOf(got).Cmp(want) != 0 {
		t.Fatalf("%s: %.200v, and not %.80s", call, got, want)
	}
}

// expectTable fails unless got is normal, and of the table want.
func expectTable(t *testing.T, call string, got qmat.Mat, e api.Errno, want table) {
	t.Helper()
	if e != api.OK || !isNormal(got) {
		t.Fatalf("%s: the error %d, or not normal: %.200v", call, e, got)
	}
	if !tableOf(got).same(want) {
		t.Fatalf("%s: %d by %d, %.200v, and not %d by %d, %.200v", call, got.R, got.C, tableOf(got).at, want.r, want.c, want.at)
	}
}

// expect fails unless got is normal, and want's matrix.
func expect(t *testing.T, call string, got qmat.Mat, e api.Errno, want qmat.Mat) {
	t.Helper()
	expectTable(t, call, got, e, tableOf(want))
}

// expectError fails unless that error is answered, and a matrix whose fields are zero.
func expectError(t *testing.T, call string, got qmat.Mat, e, want api.Errno) {
	t.Helper()
	if e != want || got.R != 0 || got.C != 0 || len(got.A) != 0 {
		t.Fatalf("%s: the error %d, and not %d, with %d by %d, %.200v", call, e, want, got.R, got.C, got.A)
	}
}

// must is the matrix of a call that answers no error.
func must(t *testing.T) func(a qmat.Mat, e api.Errno) qmat.Mat {
	return func(a qmat.Mat, e api.Errno) qmat.Mat {
		t.Helper()
		if e != api.OK {
			t.Fatal("the error", e)
		}
		return a
	}
}

// wrongSides holds sides, and how many places, of what isn't formed: sides that can't
// be, too few places and too many, and sides whose product runs over to what there is.
func wrongSides() [][3]int {
	return [][3]int{
		{-1, 0, 0}, {0, -1, 0}, {-1, -1, 0}, {-1, -1, 1}, {-2, -2, 4}, {-2, -3, 6}, {-1, 1, 1}, {1, -1, 1}, {0, -3, 0}, {-3, 0, 0},
		{most + 1, 0, 0}, {0, most + 1, 0}, {most + 1, 1, most + 1}, {1, most + 1, most + 1}, {most + 1, most + 1, 0}, {most + 1, most + 1, (most + 1) * (most + 1)}, {2 * most, 0, 0},
		{1 << 32, 1 << 32, 0}, {1 << 62, 4, 0}, {4, 1 << 62, 0}, {math.MinInt, math.MinInt, 0}, {math.MinInt, 0, 0}, {0, math.MinInt, 0}, {math.MinInt, 2, 0}, {math.MaxInt, math.MaxInt, 1}, {math.MaxInt, 0, 0}, {0, math.MaxInt, 0},
		{1, 1, 0}, {2, 2, 0}, {2, 2, 3}, {2, 2, 5}, {2, 3, 5}, {2, 3, 7}, {3, 2, 5}, {1, 1, 2}, {3, 3, 8}, {0, 0, 1}, {0, 3, 1}, {3, 0, 3}, {most, most, most*most - 1}, {most, most, most*most + 1}, {most, most, 0},
	}
}

// unformed holds matrices that aren't formed.
func unformed() []qmat.Mat {
	var list []qmat.Mat
	for i, side := range wrongSides() {
		number := []rat.Rat{over(5, 3), {}, over(0, 1), over(7, -2)}[i%4]
		list = append(list, qmat.Mat{R: side[0], C: side[1], A: slices.Repeat([]rat.Rat{number}, side[2])})
	}
	return append(list, qmat.Mat{R: 2, C: 2, A: whole(2, 2, 1, 2, 3, 4).A[:3]})
}

// unformedWhole holds matrices of whole numbers that aren't formed.
func unformedWhole() []zmat.Mat {
	var list []zmat.Mat
	for _, side := range wrongSides() {
		list = append(list, zmat.Mat{R: side[0], C: side[1], A: slices.Repeat([]zint.Int{small(-5)}, side[2])})
	}
	return list
}

// samples holds formed matrices of many sides and ranks, with fractions of one word and
// of several, 0 among them, normal and not.
func samples() []qmat.Mat {
	list := []qmat.Mat{
		{}, {A: []rat.Rat{}}, {C: 1}, {R: 1}, {C: 3}, {R: 3}, {C: 2, A: []rat.Rat{}}, {R: most}, {C: most}, {R: 2}, {C: 2},
		whole(1, 1, 0), whole(1, 1, 1), whole(1, 1, -1), rats(1, 1, over(3, -6)), rats(1, 1, rat.Rat{}), rats(1, 1, over(5, 0)), whole(1, 1, math.MinInt64), parts(math.MaxInt64, 1, 1, 2),
		parts(6, 1, 2, 3, -4), parts(3, 2, 1, -3, 4), parts(2, 1, 3, 0, 0, -3), parts(5, 3, 1, 0, 5, 0), rats(2, 3, noughts()[:6]...), rats(3, 2, noughts()[9:15]...), rats(2, 2, noughts()[20:24]...),
		whole(2, 2, 1, 2, 3, 4), whole(2, 2, 0, 1, 1, 0), whole(2, 2, 1, 0, 0, 1), whole(2, 2, 2, -4, -1, 2), parts(7, 2, 2, 0, 0, 5, 7), parts(4, 2, 2, 0, 3, 0, -7), whole(2, 2, math.MinInt64, math.MaxInt64, math.MaxInt64, math.MinInt64), whole(2, 2, 0, 0, 0, 0),
		rats(2, 2, over(1, 2), over(1, 3), over(1, 4), over(1, 5)), rats(2, 2, over(1, 2), over(1, 3), over(3, 2), over(1, 1)), rats(3, 3, over(1, 1), over(1, 2), over(1, 3), over(1, 2), over(1, 3), over(1, 4), over(1, 3), over(1, 4), over(1, 5)),
		parts(6, 2, 3, 1, 2, 3, 4, 5, 6), parts(10, 3, 2, 1, 0, 0, 1, 1, 1), whole(2, 3, 0, 0, 0, -7, 0, 7), parts(4, 2, 3, 0, 2, 4, 0, 3, 5), whole(3, 3, 1, 2, 3, 4, 5, 6, 7, 8, 9), whole(3, 3, 0, 0, 1, 1, 0, 0, 0, 1, 0), whole(3, 2, 0, 0, 0, 0, 0, 0),
		whole(3, 4, 1, 2, 1, 0, 2, 4, 0, 2, 3, 6, 1, 2), parts(9, 3, 3, 1, 2, 3, 2, 4, 6, 1, 0, 1), parts(2, 3, 3, 0, 1, 2, 0, 3, 4, 0, 5, 6), whole(3, 3, 1, 2, 3, 2, 4, 6, -3, -6, -9), parts(8, 3, 3, 0, 0, 0, 0, 0, 0, 0, 0, 9),
		whole(4, 4, 0, 2, 0, 0, 1, 0, 0, 0, 0, 0, 0, 3, 0, 0, 5, 0), parts(12, 4, 4, 1, 2, 3, 4, 2, 4, 6, 8, 1, 2, 4, 4, 0, 0, 1, 0), whole(4, 4, 1, 1, 1, 1, 1, 1, 1, 1, 1, 1, 1, 2, 1, 1, 2, 3),
		rats(2, 2, rat.Rat{N: long(false, 0, 1), D: long(true, top, top)}, rat.Rat{N: long(true, 5, 0), D: long(false, 0, 0, 1)}, over(math.MinInt64, 6), rat.Rat{N: long(false, 6, 0, 6), D: long(false, 4, 0, 4, 0)}),
		rats(1, 3, rat.Rat{N: long(true, top), D: long(true, top, 0)}, rat.Rat{N: long(false, 1, 1), D: long(false, 3, 3)}, over(-1, 7)),
	}
	source := rand.New(rand.NewSource(140))
	for _, side := range [][2]int{{4, 3}, {3, 4}, {4, 4}, {5, 5}, {5, 1}, {1, 5}, {6, 3}} {
		list = append(list, drawn(source, side[0], side[1], 2), drawnOfRank(source, side[0], side[1], min(side[0], side[1])-1, 1))
	}
	return list
}

// squares holds those of the samples that have as many rows as columns.
func squares() []qmat.Mat {
	return slices.DeleteFunc(samples(), func(a qmat.Mat) bool { return a.R != a.C })
}

// written is a with each fraction longer, or multiplied above and below, and noughts of
// all kinds in the place of those that are 0, by the number of the way.
func written(a qmat.Mat, way int) qmat.Mat {
	factors := []zint.Int{small(1), small(-1), small(2), small(-15), long(true, 6, top, 0, 5)}
	return qmatBy(a.R, a.C, func(i, k int) rat.Rat {
		x, n := a.A[i*a.C+k], 3*i+k+way
		if numberOf(x).Sign() == 0 {
			return noughts()[n%len(noughts())]
		}
		x = times(x, factors[n%len(factors)])
		return rat.Rat{N: longer(x.N, n%3), D: longer(x.D, n/3%2)}
	})
}

// forms holds ways to write a formed matrix.
func forms(a qmat.Mat) []qmat.Mat {
	list := []qmat.Mat{matOf(tableOf(a)), a}
	for way := range 6 {
		list = append(list, written(a, 5*way))
	}
	return list
}

// drawnInt is a whole number of at most n words, of either sign, maybe 0, and maybe
// not normal.
func drawnInt(source *rand.Rand, n int) zint.Int {
	a := make(nat.Nat, source.Intn(n+1))
	for i := range a {
		switch source.Intn(8) {
		case 0:
			a[i] = 0
		case 1:
			a[i] = top
		case 2, 3:
			a[i] = uint64(source.Intn(12))
		default:
			a[i] = source.Uint64() >> source.Intn(64)
		}
	}
	return zint.Int{Neg: source.Intn(2) == 0, A: a}
}

// drawnRat is a fraction of such numbers, its D maybe 0.
func drawnRat(source *rand.Rand, n int) rat.Rat {
	d := drawnInt(source, n)
	if source.Intn(3) == 0 {
		d = small(int64(1 + source.Intn(6)))
	}
	return rat.Rat{N: drawnInt(source, n), D: d}
}

// drawn is a matrix of fractions of at most so many words each.
func drawn(source *rand.Rand, r, c, words int) qmat.Mat {
	return qmatBy(r, c, func(_, _ int) rat.Rat { return drawnRat(source, words) })
}

// drawnNext is a matrix of fractions of small numbers, many of them 0.
func drawnNext(source *rand.Rand, r, c int) qmat.Mat {
	return qmatBy(r, c, func(_, _ int) rat.Rat {
		return ratOf(big.NewRat(int64(source.Intn(7)-3)*int64(source.Intn(2)), int64(1+source.Intn(4))))
	})
}

// drawnWhole is a matrix of whole numbers of at most so many words each.
func drawnWhole(source *rand.Rand, r, c, words int) qmat.Mat {
	return qmatBy(r, c, func(_, _ int) rat.Rat { return rat.Rat{N: drawnInt(source, words), D: small(1)} })
}

// drawnOfRank is a product whose rank isn't above n.
func drawnOfRank(source *rand.Rand, r, c, n, words int) qmat.Mat {
	return matOf(productOf(tableOf(drawn(source, r, n, words)), tableOf(drawn(source, n, c, words))))
}

// outside holds what is no row, and no column, of n.
func outside(n int) []int {
	return []int{-1, n, n + 1, -2, -n - 1, most, most + 1, math.MinInt, math.MaxInt, 1 << 32, -1 << 32}
}
