package qmat_test

import (
	"math"
	"math/big"
	"math/rand"
	"slices"
	"testing"

	"quincunx/api"
	"quincunx/qmat"
	"quincunx/rat"
	"quincunx/zint"
	"quincunx/zmat"
)

// wholes holds matrices of whole numbers, normal and not.
func wholes() []zmat.Mat {
	list := []zmat.Mat{
		{}, {A: []zint.Int{}}, {R: 3}, {C: most}, {R: 1, C: 1, A: []zint.Int{small(0)}}, {R: 1, C: 8, A: noughtInts()}, {R: 2, C: 2, A: []zint.Int{small(1), small(-2), small(3), small(-4)}},
		{R: 2, C: 3, A: []zint.Int{long(true, 6, 0, 0), long(true), long(false, 0, 1), long(true, top, top, 0), small(math.MinInt64), small(12)}}, {R: 3, C: 1, A: []zint.Int{small(6), small(0), small(-15)}},
	}
	source := rand.New(rand.NewSource(141))
	for _, side := range [][2]int{{3, 4}, {5, 2}, {most, 1}, {9, 9}} {
		a := zmat.Mat{R: side[0], C: side[1]}
		for range side[0] * side[1] {
			a.A = append(a.A, drawnInt(source, 3))
		}
		list = append(list, a)
	}
	return list
}

// divisors holds what is divided by: 1, -1, and numbers of one word and of several.
func divisors() []zint.Int {
	return []zint.Int{
		small(1), small(-1), small(2), small(-3), small(6), small(30), small(math.MinInt64), long(false, 1, 0, 0), long(true, 7, 0), long(false, 0, 1), long(true, top, top, 1), long(true, 0, 0, 3, 0),
	}
}

// P13.1: From is the same numbers, as fractions.
func TestFrom(t *testing.T) {
	for _, a := range wholes() {
		got, e := qmat.From(a)
		expectTable(t, "From", got, e, tableOfWhole(a))
	}
	for _, a := range unformedWhole() {
		got, e := qmat.From(a)
		expectError(t, "From", got, e, api.ErrShape)
	}
	got, e := qmat.From(zmat.Mat{R: 2, C: 2, A: []zint.Int{small(3), long(true, 0, 0), small(-5), long(false, 0, 1, 0)}})
	expect(t, "From", got, e, rats(2, 2, over(3, 1), over(0, 1), over(-5, 1), rat.Rat{N: long(false, 0, 1), D: small(1)}))
}

// P13.1: Over is each number by d, be it above 0 or below.
func TestOver(t *testing.T) {
	for _, a := range wholes() {
		for _, d := range divisors() {
			got, e := qmat.Over(a, d)
			expectTable(t, "Over", got, e, timesOf(tableOfWhole(a), new(big.Rat).SetFrac(big.NewInt(1), valueOf(d))))
		}
	}
	six := zmat.Mat{R: 2, C: 3, A: []zint.Int{small(1), small(2), small(3), small(-4), small(0), small(6)}}
	got, e := qmat.Over(six, small(6))
	expect(t, "over 6", got, e, rats(2, 3, over(1, 6), over(1, 3), over(1, 2), over(-2, 3), over(0, 1), over(1, 1)))
	got, e = qmat.Over(six, small(-4))
	expect(t, "over -4", got, e, rats(2, 3, over(-1, 4), over(-1, 2), over(-3, 4), over(1, 1), over(0, 1), over(-3, 2)))
}

// P13.1: Over's errors: that of what isn't formed ahead of that of a d of 0, which no
// matrix may have, one without numbers neither.
func TestOverWrong(t *testing.T) {
	for _, d := range noughtInts() {
		for _, a := range wholes() {
			got, e := qmat.Over(a, d)
			expectError(t, "by 0", got, e, api.ErrDomain)
		}
		for _, a := range unformedWhole() {
			got, e := qmat.Over(a, d)
			expectError(t, "not formed, by 0", got, e, api.ErrShape)
		}
	}
	for _, a := range unformedWhole() {
		for _, d := range divisors() {
			got, e := qmat.Over(a, d)
			expectError(t, "not formed", got, e, api.ErrShape)
		}
	}
}

// checkClear holds Clear's two against what tells them.
func checkClear(t *testing.T, a qmat.Mat) {
	t.Helper()
	got, d, e := qmat.Clear(a)
	least := tableOf(a).leastMultiple()
	if e != api.OK || !isNormalInt(d) || valueOf(d).Cmp(least) != 0 {
		t.Fatalf("Clear: the error %d, %.200v, and not %s", e, d, least)
	}
	want := timesOf(tableOf(a), new(big.Rat).SetInt(least))
	if !isNormalWhole(got) || !tableOfWhole(got).same(want) {
		t.Fatalf("Clear: %.200v, and not %.200v", got, want.at)
	}
}

// P13.1: Clear of all samples, however they are written.
func TestClear(t *testing.T) {
	for _, a := range samples() {
		for _, b := range forms(a) {
			checkClear(t, b)
		}
	}
	for _, c := range []struct {
		a    qmat.Mat
		want []int64
		d    int64
	}{
		{rats(2, 2, over(-2, 1), over(1, 1), over(3, 2), over(-1, 2)), []int64{-4, 2, 3, -1}, 2}, {rats(1, 3, over(1, 6), over(1, 10), over(-4, 15)), []int64{5, 3, -8}, 30}, {rats(1, 2, over(2, 1), over(4, 1)), []int64{2, 4}, 1},
		{rats(1, 2, over(2, 3), over(4, 3)), []int64{2, 4}, 3}, {rats(1, 2, over(2, -4), over(6, 4)), []int64{-1, 3}, 2}, {rats(2, 1, over(0, 7), over(9, 0)), []int64{0, 0}, 1}, {qmat.Mat{}, nil, 1}, {qmat.Mat{R: 5}, nil, 1},
	} {
		got, d, e := qmat.Clear(c.a)
		want := whole(c.a.R, c.a.C, c.want...)
		if e != api.OK || valueOf(d).Cmp(big.NewInt(c.d)) != 0 || !tableOfWhole(got).same(tableOf(want)) {
			t.Fatal(c, got, d, e)
		}
	}
}

// P13.1: Clear of drawn matrices, and of the greatest sides.
func TestClearOfDrawn(t *testing.T) {
	source := rand.New(rand.NewSource(142))
	for range 600 {
		r, c := source.Intn(5), source.Intn(5)
		checkClear(t, drawn(source, r, c, 3))
		checkClear(t, drawnNext(source, r, c))
	}
	checkClear(t, drawnNext(source, most, most))
	checkClear(t, qmatBy(most, most, func(i, k int) rat.Rat { return over(int64(i-k), int64(most*i+k+1)) }))
	checkClear(t, drawn(source, 2, 2, 200))
}

// P13.1: Clear of what isn't formed.
func TestClearOfUnformed(t *testing.T) {
	for _, a := range unformed() {
		got, d, e := qmat.Clear(a)
		if e != api.ErrShape || got.R != 0 || got.C != 0 || len(got.A) != 0 || d.Neg || len(d.A) != 0 {
			t.Fatal(a.R, a.C, got, d, e)
		}
	}
}

// P13.1: Formed of all sides, whatever the fractions are.
func TestFormed(t *testing.T) {
	for _, a := range samples() {
		for _, b := range forms(a) {
			if !qmat.Formed(b) {
				t.Fatal("it is formed", b)
			}
		}
	}
	for _, a := range unformed() {
		if qmat.Formed(a) {
			t.Fatal("it isn't formed", a)
		}
	}
	list := []int{-1 << 40, math.MinInt, -65, -64, -2, -1, 0, 1, 2, 3, 8, 63, most, most + 1, most + 2, 128, 1 << 31, 1 << 32, 1 << 62, math.MaxInt}
	for _, r := range list {
		for _, c := range list {
			for _, n := range []int{0, 1, 2, 3, 4, 6, 8, 63, 64, 65, 128, 4095, 4096, 4097} {
				a := qmat.Mat{R: r, C: c, A: make([]rat.Rat, n)}
				if qmat.Formed(a) != isFormed(r, c, n) {
					t.Fatal(r, c, n, qmat.Formed(a))
				}
			}
		}
	}
}

// P13.1: Same of any two matrices, by how they are written, their sides and numbers.
func TestSame(t *testing.T) {
	for _, a := range samples() {
		for _, b := range samples() {
			if qmat.Same(a, b) != tableOf(a).same(tableOf(b)) {
				t.Fatal(a, b, qmat.Same(a, b))
			}
		}
		for _, b := range forms(a) {
			if !qmat.Same(a, b) || !qmat.Same(b, a) || !qmat.Same(b, b) {
				t.Fatal("it is the same", a, b)
			}
		}
	}
}

// P13.1: Same of matrices that are other in one number alone.
func TestSameOfOneOtherNumber(t *testing.T) {
	for _, a := range samples() {
		for at, number := range a.A {
			x := numberOf(number)
			for _, y := range []*big.Rat{new(big.Rat).Add(x, big.NewRat(1, 1)), new(big.Rat).Neg(x), new(big.Rat).Mul(x, big.NewRat(1, 2)), new(big.Rat), new(big.Rat).SetInt(x.Num())} {
				other := qmat.Mat{R: a.R, C: a.C, A: slices.Clone(a.A)}
				other.A[at] = ratOf(y)
				isSame := x.Cmp(y) == 0
				if qmat.Same(a, other) != isSame || qmat.Same(other, a) != isSame {
					t.Fatal(a, other)
				}
			}
		}
	}
}

// P13.1: Same of the same numbers in other sides, of no numbers in all sides, and of
// what isn't formed, with itself too.
func TestSameOfOtherSides(t *testing.T) {
	var list []qmat.Mat
	for _, r := range []int{1, 2, 3, 4, 6, 12} {
		list = append(list, parts(5, r, 12/r, 1, 2, 3, 4, 5, 6, 7, 8, 9, 10, 11, 12))
	}
	for n := range 5 {
		list = append(list, qmat.Mat{R: n}, qmat.Mat{C: n + 1})
	}
	for i, a := range list {
		for k, b := range list {
			if qmat.Same(a, b) != (i == k) {
				t.Fatal(a, b)
			}
		}
	}
	for _, a := range unformed() {
		for _, b := range append(unformed(), samples()...) {
			if qmat.Same(a, b) || qmat.Same(b, a) {
				t.Fatal("one isn't formed", a, b)
			}
		}
		if qmat.Same(a, a) {
			t.Fatal("it isn't formed", a)
		}
	}
}

// checkNought fails unless the number is 0 over 1.
func checkNought(t *testing.T, a qmat.Mat, i, k int) {
	t.Helper()
	if x := qmat.At(a, i, k); x.N.Neg || len(x.N.A) != 0 || x.D.Neg || !slices.Equal(x.D.A, []uint64{1}) {
		t.Fatal("there is no such number", a.R, a.C, i, k, x)
	}
}

// P13.1: At of all places, and of those outside on each side, where the list has a
// number by reckoning on, too.
func TestAt(t *testing.T) {
	for _, a := range append(samples(), drawnNext(rand.New(rand.NewSource(143)), most, most)) {
		for i := range a.R {
			for k := range a.C {
				expectRat(t, "At", qmat.At(a, i, k), numberOf(a.A[i*a.C+k]))
			}
			for _, k := range outside(a.C) {
				if k < 0 || k >= a.C {
					checkNought(t, a, i, k)
				}
			}
		}
		for _, i := range outside(a.R) {
			for _, k := range append(outside(a.C), 0, 1, 2) {
				if i < 0 || i >= a.R {
					checkNought(t, a, i, k)
				}
			}
		}
	}
	a := parts(3, 2, 3, 1, 2, 3, 4, 5, 6)
	for _, place := range [][2]int{{0, 3}, {1, -1}, {0, 5}, {1, -3}, {-1, 3}, {-1, 5}, {2, -1}, {2, -6}, {1 << 63 / 3, 2}, {2, 0}, {0, -1}} {
		checkNought(t, a, place[0], place[1])
	}
}

// P13.1: At of what isn't formed.
func TestAtOfUnformed(t *testing.T) {
	for _, a := range unformed() {
		for _, i := range []int{-1, 0, 1, 63, 64, math.MaxInt, math.MinInt} {
			for _, k := range []int{-1, 0, 1, 63, 64, math.MaxInt, math.MinInt} {
				checkNought(t, a, i, k)
			}
		}
	}
}
