package bareiss_test

import (
	"math"
	"math/big"
	"math/rand"
	"testing"

	"quincunx/api"
	"quincunx/bareiss"
	"quincunx/zint"
	"quincunx/zmat"
)

// checkSmall holds Det, Rank and Adjugate against what the chapter's words tell.
func checkSmall(t *testing.T, a zmat.Mat) {
	t.Helper()
	want := tableOf(a)
	rank, e := bareiss.Rank(a)
	_, pivots := want.reduced()
	if e != api.OK || rank != len(pivots) {
		t.Fatal("Rank of", a, rank, e, pivots)
	}
	det, e := bareiss.Det(a)
	adjugate, adjugateErr := bareiss.Adjugate(a)
	if a.R != a.C {
		expectNoInt(t, "Det", det, e, api.ErrShape)
		expectNoMat(t, "Adjugate", adjugate, adjugateErr, api.ErrShape)
		return
	}
	expectInt(t, "Det", det, e, want.det())
	expectTable(t, "Adjugate", adjugate, adjugateErr, want.adjugate())
}

// each hands on all matrices of these sides, with numbers from -span to span.
func each(r, c int, span int64, hand func(a zmat.Mat)) {
	l := make([]int64, r*c)
	for i := range l {
		l[i] = -span
	}
	for {
		hand(mat(r, c, l...))
		at := 0
		for at < len(l) && l[at] == span {
			l[at] = -span
			at++
		}
		if at == len(l) {
			return
		}
		l[at]++
	}
}

// P12.1: determinants that are easily reckoned.
func TestDet(t *testing.T) {
	for _, c := range []struct {
		a    zmat.Mat
		want int64
	}{
		{mat(0, 0), 1}, {zmat.Mat{A: []zint.Int{}}, 1}, {mat(1, 1, 0), 0}, {mat(1, 1, -5), -5}, {mat(1, 1, math.MinInt64), math.MinInt64}, {mat(2, 2, 1, 2, 3, 4), -2}, {mat(2, 2, 3, 4, 1, 2), 2},
		{mat(2, 2, 0, 1, 1, 0), -1}, {mat(2, 2, 1, 0, 0, 1), 1}, {mat(2, 2, 2, 4, 1, 2), 0}, {mat(2, 2, 0, 3, 0, 7), 0}, {mat(2, 2, 0, 0, 3, 7), 0}, {mat(2, 2, 0, 0, 0, 0), 0},
		{mat(3, 3, 2, 0, 1, 1, 3, 2, 1, 1, 4), 18}, {mat(3, 3, 1, 2, 3, 4, 5, 6, 7, 8, 9), 0}, {mat(3, 3, 0, 1, 0, 0, 0, 1, 1, 0, 0), 1}, {mat(3, 3, 0, 0, 1, 0, 1, 0, 1, 0, 0), -1}, {mat(3, 3, 2, 9, 9, 0, 3, 9, 0, 0, -5), -30},
		{mat(3, 3, 0, 0, 2, 3, 0, 0, 0, 5, 7), 30}, {mat(3, 3, 1, 1, 1, 1, 1, 2, 1, 2, 3), -1}, {mat(4, 4, 0, 2, 0, 0, 1, 0, 0, 0, 0, 0, 0, 3, 0, 0, 5, 0), 30}, {mat(4, 4, 1, 1, 1, 1, 1, 1, 1, 2, 1, 1, 2, 1, 1, 2, 1, 1), -1},
	} {
		for _, a := range forms(c.a) {
			got, e := bareiss.Det(a)
			expectInt(t, "Det", got, e, big.NewInt(c.want))
		}
	}
}

// P12.1: ranks that are easily reckoned.
func TestRank(t *testing.T) {
	for _, c := range []struct {
		a    zmat.Mat
		want int
	}{
		{mat(0, 0), 0}, {mat(0, 5), 0}, {mat(5, 0), 0}, {mat(most, 0), 0}, {mat(1, 1, 0), 0}, {mat(1, 1, -3), 1}, {mat(1, 3, 0, 0, 2), 1}, {mat(3, 1, 0, 0, 2), 1}, {mat(2, 2, 0, 0, 0, 0), 0}, {mat(2, 2, 2, 4, 1, 2), 1}, {mat(2, 2, 1, 2, 3, 4), 2},
		{mat(2, 3, 1, 2, 3, 2, 4, 6), 1}, {mat(2, 3, 1, 2, 3, 2, 4, 7), 2}, {mat(3, 2, 1, 2, 2, 4, 3, 6), 1}, {mat(3, 2, 1, 2, 2, 4, 3, 7), 2}, {mat(3, 3, 1, 2, 3, 2, 4, 6, 1, 0, 1), 2}, {mat(3, 3, 1, 2, 3, 4, 5, 6, 7, 8, 9), 2},
		{mat(3, 3, 0, 0, 1, 0, 0, 2, 0, 3, 0), 2}, {mat(3, 4, 0, 0, 0, 1, 0, 0, 0, 1, 0, 0, 1, 0), 2}, {mat(2, 2, 1<<31, 1<<32, 1<<31, 1<<32), 1}, {mat(2, 2, 1<<32, 0, 0, 1<<32), 2},
	} {
		for _, a := range forms(c.a) {
			if got, e := bareiss.Rank(a); e != api.OK || got != c.want {
				t.Fatal("Rank", a, got, e, c.want)
			}
		}
	}
}

// P12.1: adjugates that are easily reckoned; that of one number is 1, of 0 too.
func TestAdjugate(t *testing.T) {
	for _, c := range []struct{ a, want zmat.Mat }{
		{mat(0, 0), mat(0, 0)}, {mat(1, 1, 0), mat(1, 1, 1)}, {mat(1, 1, 7), mat(1, 1, 1)}, {mat(1, 1, -7), mat(1, 1, 1)}, {mat(2, 2, 1, 2, 3, 4), mat(2, 2, 4, -2, -3, 1)}, {mat(2, 2, 0, 0, 0, 0), mat(2, 2, 0, 0, 0, 0)},
		{mat(2, 2, 2, 4, 1, 2), mat(2, 2, 2, -4, -1, 2)}, {mat(2, 2, 0, 0, 3, 5), mat(2, 2, 5, 0, -3, 0)}, {mat(2, 2, 0, 3, 0, 5), mat(2, 2, 5, -3, 0, 0)}, {mat(2, 2, 0, 2, 3, 0), mat(2, 2, 0, -2, -3, 0)},
		{mat(3, 3, 1, 2, 3, 4, 5, 6, 7, 8, 9), mat(3, 3, -3, 6, -3, 6, -12, 6, -3, 6, -3)}, {mat(3, 3, 1, 1, 1, 1, 1, 1, 1, 1, 1), mat(3, 3, 0, 0, 0, 0, 0, 0, 0, 0, 0)}, {mat(3, 3, 2, 0, 0, 0, 3, 0, 0, 0, 5), mat(3, 3, 15, 0, 0, 0, 10, 0, 0, 0, 6)},
		{mat(3, 3, 0, 0, 0, 0, 3, 0, 0, 0, 5), mat(3, 3, 15, 0, 0, 0, 0, 0, 0, 0, 0)}, {mat(3, 3, 2, 0, 0, 0, 0, 0, 0, 0, 5), mat(3, 3, 0, 0, 0, 0, 10, 0, 0, 0, 0)}, {mat(3, 3, 0, 1, 0, 0, 0, 1, 0, 0, 0), mat(3, 3, 0, 0, 1, 0, 0, 0, 0, 0, 0)},
	} {
		for _, a := range forms(c.a) {
			got, e := bareiss.Adjugate(a)
			expectTable(t, "Adjugate", got, e, tableOf(c.want))
		}
	}
}

// P12.1: all matrices of few small numbers, of each rank and each order of rows.
func TestAllSmallMatrices(t *testing.T) {
	for _, c := range [][3]int{{1, 1, 9}, {2, 2, 3}, {3, 3, 1}, {1, 3, 2}, {3, 1, 2}, {2, 3, 1}, {3, 2, 1}, {2, 4, 1}, {4, 2, 1}} {
		each(c[0], c[1], int64(c[2]), func(a zmat.Mat) { checkSmall(t, a) })
	}
}

// P12.1: the rank is that of minors.
func TestRankByMinors(t *testing.T) {
	source := rand.New(rand.NewSource(121))
	for n := range 600 {
		r, c := source.Intn(5), source.Intn(5)
		a := drawnNext(source, r, c)
		if n%3 == 0 {
			a = drawnOfRank(source, r, c, source.Intn(4), 1)
		}
		if got, e := bareiss.Rank(a); e != api.OK || got != tableOf(a).rankByMinors() {
			t.Fatal(a, got, e)
		}
	}
}

// P12.1: samples, however they are written.
func TestSamples(t *testing.T) {
	for _, a := range samples() {
		for _, b := range forms(a) {
			checkSmall(t, b)
		}
	}
}

// P12.1: drawn matrices, of all ranks too.
func TestDrawn(t *testing.T) {
	source := rand.New(rand.NewSource(122))
	for n := range 1500 {
		r, c := source.Intn(6), source.Intn(6)
		if n%4 != 0 {
			c = r
		}
		checkSmall(t, drawn(source, r, c, 1+source.Intn(4)))
		checkSmall(t, drawnNext(source, r, c))
		checkSmall(t, drawnOfRank(source, r, c, max(0, r-source.Intn(3)), 2))
	}
	for size := 6; size <= 9; size++ {
		for less := range 3 {
			checkSmall(t, drawnOfRank(source, size, size, size-less, 1))
			checkSmall(t, drawnNext(source, size, size))
		}
	}
	checkSmall(t, drawn(source, 4, 4, 60))
	checkSmall(t, drawnOfRank(source, 4, 4, 3, 40))
}

// P12.1: one column without a pivot, each of them, with rows that change places.
func TestAdjugateOfEachFreeColumn(t *testing.T) {
	source := rand.New(rand.NewSource(123))
	for size := 1; size <= 6; size++ {
		for free := range size {
			for range 12 {
				a := tableOf(drawn(source, size, size, 2))
				order, turns := source.Perm(size), source.Perm(size)
				b := tableBy(size, size, func(i, k int) *big.Int {
					if k == free || turns[i] == 0 && k < size/2 {
						return big.NewInt(0)
					}
					return a.get(order[i], k)
				})
				checkSmall(t, matOf(b))
				times := big.NewInt(int64(source.Intn(7) - 3))
				checkSmall(t, matOf(tableBy(size, size, func(i, k int) *big.Int {
					if k == free && k > 0 {
						return new(big.Int).Mul(times, b.get(i, k-1))
					}
					return b.get(i, k)
				})))
			}
		}
	}
}

// P12.1: Without of all rows and columns, and of such that aren't there.
func TestWithout(t *testing.T) {
	for _, a := range append(samples(), matOf(tableBy(most, most, func(i, k int) *big.Int { return big.NewInt(int64(i*most + k)) }))) {
		for i := range a.R {
			for k := range a.C {
				if a.R == most && (i%21 != 0 || k%9 != 0) {
					continue
				}
				got, e := bareiss.Without(a, i, k)
				expectTable(t, "Without", got, e, tableOf(a).without(i, k))
			}
			for _, k := range outside(a.C) {
				got, e := bareiss.Without(a, i, k)
				expectNoMat(t, "Without, of no column", got, e, api.ErrArg)
			}
		}
		for _, i := range outside(a.R) {
			for _, k := range append(outside(a.C), 0, 1, a.C-1) {
				got, e := bareiss.Without(a, i, k)
				expectNoMat(t, "Without, of no row", got, e, api.ErrArg)
			}
		}
	}
	got, e := bareiss.Without(mat(2, 3, 1, 2, 3, 4, 5, 6), 0, 1)
	expectTable(t, "Without", got, e, tableOf(mat(1, 2, 4, 6)))
	got, e = bareiss.Without(mat(3, 2, 1, 2, 3, 4, 5, 6), 2, 0)
	expectTable(t, "Without", got, e, tableOf(mat(2, 1, 2, 4)))
	got, e = bareiss.Without(mat(1, 4, 1, 2, 3, 4), 0, 3)
	expectTable(t, "the only row", got, e, tableOf(mat(0, 3)))
	got, e = bareiss.Without(mat(4, 1, 1, 2, 3, 4), 3, 0)
	expectTable(t, "the only column", got, e, tableOf(mat(3, 0)))
	got, e = bareiss.Without(mat(1, 1, 5), 0, 0)
	expectTable(t, "the only number", got, e, tableOf(mat(0, 0)))
	got, e = bareiss.Without(mat(2, 3, 1, 2, 3, 4, 5, 6), 2, 1)
	expectNoMat(t, "a column's number, and no row's", got, e, api.ErrArg)
	got, e = bareiss.Without(mat(3, 2, 1, 2, 3, 4, 5, 6), 1, 2)
	expectNoMat(t, "a row's number, and no column's", got, e, api.ErrArg)
}

// P12.1 to P12.3: ErrShape of what isn't formed, ahead of all else.
func TestUnformed(t *testing.T) {
	for _, a := range unformed() {
		det, e := bareiss.Det(a)
		expectNoInt(t, "Det", det, e, api.ErrShape)
		rank, e := bareiss.Rank(a)
		expectError(t, "Rank", e, api.ErrShape)
		adjugate, e := bareiss.Adjugate(a)
		expectNoMat(t, "Adjugate", adjugate, e, api.ErrShape)
		echelon, pivots, e := bareiss.Echelon(a)
		expectNoMat(t, "Echelon", echelon, e, api.ErrShape)
		bound, e := bareiss.Bound(a)
		expectNoInt(t, "Bound", bound, e, api.ErrShape)
		if rank != 0 || len(pivots) != 0 {
			t.Fatal("beside an error", a, rank, pivots)
		}
		for _, i := range append(outside(a.R), 0) {
			got, e := bareiss.Without(a, i, 0)
			expectNoMat(t, "Without", got, e, api.ErrShape)
			got, e = bareiss.Without(a, 0, i)
			expectNoMat(t, "Without", got, e, api.ErrShape)
		}
	}
}

// P12.1, P12.3: ErrShape, where there aren't as many rows as columns.
func TestNotSquare(t *testing.T) {
	list := []zmat.Mat{mat(0, 1), mat(1, 0), mat(0, most), mat(most, 0), mat(1, 2, 1, 2), mat(2, 1, 1, 2), mat(2, 3, 1, 2, 3, 4, 5, 6), mat(1, 4, 1, 2, 3, 4), mat(4, 1, 1, 2, 3, 4), {R: most, C: most - 1, A: fives(most * (most - 1))}, {R: most - 1, C: most, A: fives(most * (most - 1))}}
	for _, a := range list {
		det, e := bareiss.Det(a)
		expectNoInt(t, "Det", det, e, api.ErrShape)
		adjugate, e := bareiss.Adjugate(a)
		expectNoMat(t, "Adjugate", adjugate, e, api.ErrShape)
		bound, e := bareiss.Bound(a)
		expectNoInt(t, "Bound", bound, e, api.ErrShape)
		if rank, e := bareiss.Rank(a); e != api.OK || rank > min(a.R, a.C) {
			t.Fatal("Rank", a, rank, e)
		}
		if _, pivots, e := bareiss.Echelon(a); e != api.OK || len(pivots) > min(a.R, a.C) {
			t.Fatal("Echelon", a, pivots, e)
		}
	}
}
