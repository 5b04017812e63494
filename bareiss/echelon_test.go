package bareiss_test

import (
	"math/big"
	"math/rand"
	"slices"
	"testing"

	"quincunx/api"
	"quincunx/bareiss"
	"quincunx/zmat"
)

// checkSteps holds that each row begins with its pivot, the other rows are noughts, and
// pivots rise.
func checkSteps(t *testing.T, a table, pivots []int) {
	t.Helper()
	if len(pivots) > a.r || !slices.IsSorted(pivots) || len(slices.Compact(slices.Clone(pivots))) != len(pivots) {
		t.Fatal(pivots)
	}
	for i := range a.r {
		noughts := a.c
		if i < len(pivots) {
			noughts = pivots[i]
			if a.get(i, noughts).Sign() == 0 {
				t.Fatal("a pivot is 0", i, pivots)
			}
		}
		for k := range noughts {
			if a.get(i, k).Sign() != 0 {
				t.Fatal("no nought", i, k, pivots)
			}
		}
	}
}

func sameRats(a, b []*big.Rat) bool {
	return slices.EqualFunc(a, b, func(x, y *big.Rat) bool { return x.Cmp(y) == 0 })
}

// checkEchelon holds all that the promise tells.
func checkEchelon(t *testing.T, a zmat.Mat) {
	t.Helper()
	got, pivots, e := bareiss.Echelon(a)
	if e != api.OK || !isNormal(got) || got.R != a.R || got.C != a.C {
		t.Fatal(a, got, pivots, e)
	}
	first, answered := tableOf(a), tableOf(got)
	checkSteps(t, answered, pivots)
	want, known := first.reduced()
	if !slices.Equal(pivots, known) {
		t.Fatal("the pivots", a, pivots, known)
	}
	if rows, _ := answered.reduced(); !slices.EqualFunc(rows, want, sameRats) {
		t.Fatal("other multiples of rows", a, got)
	}
	for i, k := range pivots {
		if !first.hasMinor(answered.get(i, k), pivots[:i+1]) {
			t.Fatal("no minor", a, got, i, k)
		}
	}
}

// P12.2: echelons in which no row is chosen, or no other one can be: signs are free.
func TestEchelon(t *testing.T) {
	for _, c := range []struct {
		a, want zmat.Mat
		pivots  []int
	}{
		{mat(2, 3, 0, 2, 4, 0, 3, 5), mat(2, 3, 0, 2, 4, 0, 0, -2), []int{1, 2}}, {mat(2, 2, 1, 2, 3, 4), mat(2, 2, 1, 2, 0, -2), []int{0, 1}}, {mat(0, 0), mat(0, 0), nil}, {mat(0, 3), mat(0, 3), nil}, {mat(3, 0), mat(3, 0), nil},
		{mat(2, 3, 0, 0, 0, 0, 0, 0), mat(2, 3, 0, 0, 0, 0, 0, 0), nil}, {mat(1, 4, 0, 0, -6, 4), mat(1, 4, 0, 0, -6, 4), []int{2}}, {mat(1, 1, 0), mat(1, 1, 0), nil}, {mat(1, 1, -7), mat(1, 1, -7), []int{0}},
		{mat(3, 3, 2, 0, 1, 1, 3, 2, 1, 1, 4), mat(3, 3, 2, 0, 1, 0, 6, 3, 0, 0, 18), []int{0, 1, 2}}, {mat(3, 3, 1, 2, 3, 2, 4, 6, 4, 8, 12), mat(3, 3, 1, 2, 3, 0, 0, 0, 0, 0, 0), []int{0}}, {mat(2, 2, 4, 6, 6, 9), mat(2, 2, 4, 6, 0, 0), []int{0}},
	} {
		for _, a := range forms(c.a) {
			got, pivots, e := bareiss.Echelon(a)
			if !slices.Equal(pivots, c.pivots) {
				t.Fatal("the pivots", a, pivots)
			}
			expectTable(t, "Echelon", got, e, upToSigns(tableOf(got), tableOf(c.want)))
		}
	}
}

// upToSigns is b with each row's negative in its place where a's row begins so.
func upToSigns(a, b table) table {
	return tableBy(b.r, b.c, func(i, k int) *big.Int {
		for at := range b.c {
			if a.c == b.c && a.get(i, at).Sign()*b.get(i, at).Sign() < 0 {
				return new(big.Int).Neg(b.get(i, k))
			}
		}
		return b.get(i, k)
	})
}

// P12.2: all matrices of few small numbers.
func TestEchelonsOfAllSmallMatrices(t *testing.T) {
	for _, c := range [][3]int{{1, 1, 9}, {2, 2, 2}, {1, 3, 2}, {3, 1, 2}, {2, 3, 1}, {3, 2, 1}, {2, 4, 1}, {4, 2, 1}, {3, 3, 1}} {
		each(c[0], c[1], int64(c[2]), func(a zmat.Mat) { checkEchelon(t, a) })
	}
}

// P12.2: samples, however they are written.
func TestEchelonsOfSamples(t *testing.T) {
	for _, a := range samples() {
		for _, b := range forms(a) {
			checkEchelon(t, b)
		}
	}
}

// P12.2: drawn matrices of all ranks, with columns that hang on those ahead.
func TestEchelonsOfDrawn(t *testing.T) {
	source := rand.New(rand.NewSource(127))
	for range 700 {
		r, c := source.Intn(7), source.Intn(7)
		checkEchelon(t, drawn(source, r, c, 1+source.Intn(3)))
		checkEchelon(t, drawnNext(source, r, c))
		checkEchelon(t, drawnOfRank(source, r, c, source.Intn(5), 2))
		a := tableOf(drawnOfRank(source, r, 2, 1+source.Intn(2), 1))
		checkEchelon(t, matOf(productOf(a, tableOf(drawnNext(source, 2, c)))))
	}
}

// P12.2: the determinant is, up to its sign, the last pivot's number, where there are as
// many as rows.
func TestLastPivotIsTheDeterminant(t *testing.T) {
	for _, a := range squares() {
		got, pivots, _ := bareiss.Echelon(a)
		if len(pivots) == a.R && a.R > 0 && valueOf(zmat.At(got, a.R-1, a.R-1)).CmpAbs(tableOf(a).det()) != 0 {
			t.Fatal(a, got)
		}
	}
}
