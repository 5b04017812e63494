package qmat_test

import (
	"math/rand"
	"slices"
	"testing"

	"quincunx/api"
	"quincunx/qmat"
	"quincunx/rat"
)

// checkReduce holds Reduce.
func checkReduce(t *testing.T, a qmat.Mat) {
	t.Helper()
	got, pivots, e := qmat.Reduce(a)
	want, known := tableOf(a).reduced()
	expectTable(t, "Reduce", got, e, want)
	if !slices.Equal(pivots, known) {
		t.Fatal("the pivots", a, pivots, known)
	}
}

// checkKernel holds Kernel.
func checkKernel(t *testing.T, a qmat.Mat) {
	t.Helper()
	got, e := qmat.Kernel(a)
	expectTable(t, "Kernel", got, e, tableOf(a).kernel())
}

// checkInverse holds Inverse.
func checkInverse(t *testing.T, a qmat.Mat) {
	t.Helper()
	got, e := qmat.Inverse(a)
	if a.R != a.C {
		expectError(t, "Inverse", got, e, api.ErrShape)
		return
	}
	if want, isThere := tableOf(a).inverse(); isThere {
		expectTable(t, "Inverse", got, e, want)
	} else {
		expectError(t, "Inverse", got, e, api.ErrDomain)
	}
}

// checkSolve holds Solve.
func checkSolve(t *testing.T, a, b qmat.Mat) {
	t.Helper()
	got, e := qmat.Solve(a, b)
	if a.R != b.R {
		expectError(t, "Solve", got, e, api.ErrShape)
		return
	}
	if want, isThere := tableOf(a).solved(tableOf(b)); isThere {
		expectTable(t, "Solve", got, e, want)
	} else {
		expectError(t, "Solve", got, e, api.ErrNone)
	}
}

// checkAll holds what is told of one matrix.
func checkAll(t *testing.T, a qmat.Mat) {
	t.Helper()
	checkReduce(t, a)
	checkKernel(t, a)
	checkInverse(t, a)
}

// P13.2: reduced forms that are easily reckoned.
func TestReduce(t *testing.T) {
	for _, c := range []struct {
		a, want qmat.Mat
		pivots  []int
	}{
		{whole(3, 4, 1, 2, 1, 0, 2, 4, 0, 2, 3, 6, 1, 2), whole(3, 4, 1, 2, 0, 1, 0, 0, 1, -1, 0, 0, 0, 0), []int{0, 2}}, {whole(0, 0), whole(0, 0), nil}, {whole(0, 3), whole(0, 3), nil}, {whole(3, 0), whole(3, 0), nil}, {whole(2, 2, 0, 0, 0, 0), whole(2, 2, 0, 0, 0, 0), nil},
		{parts(3, 1, 1, -5), whole(1, 1, 1), []int{0}}, {parts(6, 1, 4, 0, 4, -6, 9), parts(4, 1, 4, 0, 4, -6, 9), []int{1}}, {parts(6, 3, 1, 0, 4, -6), whole(3, 1, 1, 0, 0), []int{0}}, {whole(2, 2, 1, 2, 3, 4), whole(2, 2, 1, 0, 0, 1), []int{0, 1}}, {whole(2, 2, 2, 4, 1, 2), whole(2, 2, 1, 2, 0, 0), []int{0}},
		{rats(2, 3, over(1, 2), over(1, 3), over(1, 1), over(1, 4), over(1, 6), over(1, 3)), parts(3, 2, 3, 3, 2, 0, 0, 0, 3), []int{0, 2}}, {whole(3, 3, 0, 0, 7, 0, 0, 5, 0, 0, 1), whole(3, 3, 0, 0, 1, 0, 0, 0, 0, 0, 0), []int{2}}, {whole(3, 3, 0, 1, 0, 0, 0, 2, 3, 0, 0), whole(3, 3, 1, 0, 0, 0, 1, 0, 0, 0, 1), []int{0, 1, 2}},
		{whole(2, 4, 0, 2, 3, 4, 0, 4, 6, 9), parts(2, 2, 4, 0, 2, 3, 0, 0, 0, 0, 2), []int{1, 3}}, {whole(4, 2, 0, 0, 2, 3, 4, 6, 0, 5), whole(4, 2, 1, 0, 0, 1, 0, 0, 0, 0), []int{0, 1}},
	} {
		for _, a := range forms(c.a) {
			got, pivots, e := qmat.Reduce(a)
			expect(t, "Reduce", got, e, c.want)
			if !slices.Equal(pivots, c.pivots) {
				t.Fatal("the pivots", a, pivots)
			}
		}
	}
}

// P13.2: inverses that are easily reckoned, and matrices without one.
func TestInverse(t *testing.T) {
	for _, c := range [][2]qmat.Mat{
		{whole(2, 2, 1, 2, 3, 4), rats(2, 2, over(-2, 1), over(1, 1), over(3, 2), over(-1, 2))}, {whole(0, 0), whole(0, 0)}, {whole(1, 1, 1), whole(1, 1, 1)}, {parts(3, 1, 1, -2), parts(2, 1, 1, -3)}, {whole(2, 2, 0, 1, 1, 0), whole(2, 2, 0, 1, 1, 0)}, {whole(2, 2, 0, 2, 3, 0), rats(2, 2, over(0, 1), over(1, 3), over(1, 2), over(0, 1))},
		{rats(3, 3, over(1, 1), over(1, 2), over(1, 3), over(1, 2), over(1, 3), over(1, 4), over(1, 3), over(1, 4), over(1, 5)), whole(3, 3, 9, -36, 30, -36, 192, -180, 30, -180, 180)}, {whole(3, 3, 0, 0, 1, 1, 0, 0, 0, 1, 0), whole(3, 3, 0, 1, 0, 0, 0, 1, 1, 0, 0)},
	} {
		for _, a := range forms(c[0]) {
			got, e := qmat.Inverse(a)
			expect(t, "Inverse", got, e, c[1])
		}
	}
	for _, c := range []qmat.Mat{
		whole(1, 1, 0), rats(1, 1, over(7, 0)), whole(2, 2, 0, 0, 0, 0), whole(2, 2, 1, 2, 2, 4), whole(2, 2, 0, 1, 0, 2), whole(2, 2, 0, 0, 1, 2), whole(3, 3, 1, 2, 3, 4, 5, 6, 7, 8, 9), rats(2, 2, over(1, 2), over(1, 3), over(3, 2), over(1, 1)),
	} {
		for _, a := range forms(c) {
			got, e := qmat.Inverse(a)
			expectError(t, "there is none", got, e, api.ErrDomain)
		}
	}
	for _, a := range []qmat.Mat{whole(1, 2, 1, 0), whole(2, 1, 1, 0), whole(0, 1), whole(1, 0), whole(2, 3, 0, 0, 0, 0, 0, 0), whole(3, 2, 1, 0, 0, 1, 0, 0), whole(most, 0), whole(0, most)} {
		got, e := qmat.Inverse(a)
		expectError(t, "other sides", got, e, api.ErrShape)
	}
}

// P13.2: equations that are easily reckoned: those with one x, with many, and with none.
func TestSolve(t *testing.T) {
	for _, c := range []struct{ a, b, want qmat.Mat }{
		{whole(2, 3, 1, 0, 1, 0, 1, 1), whole(2, 1, 3, 4), whole(3, 1, 3, 4, 0)}, {whole(2, 2, 1, 2, 3, 4), whole(2, 2, 1, 0, 0, 1), rats(2, 2, over(-2, 1), over(1, 1), over(3, 2), over(-1, 2))}, {whole(1, 3, 0, 2, 5), whole(1, 2, 3, -4), rats(3, 2, over(0, 1), over(0, 1), over(3, 2), over(-2, 1), over(0, 1), over(0, 1))},
		{whole(1, 1, 0), whole(1, 1, 0), whole(1, 1, 0)}, {whole(2, 1, 1, 2), parts(7, 2, 1, 1, 2), parts(7, 1, 1, 1)}, {whole(3, 2, 1, 0, 0, 1, 1, 1), whole(3, 1, 2, 3, 5), whole(2, 1, 2, 3)}, {parts(2, 2, 2, 0, 1, 0, 2), whole(2, 1, 3, 6), whole(2, 1, 0, 6)}, {whole(2, 2, 0, 0, 0, 0), whole(2, 2, 0, 0, 0, 0), whole(2, 2, 0, 0, 0, 0)},
		{whole(0, 0), whole(0, 0), whole(0, 0)}, {whole(0, 3), whole(0, 2), whole(3, 2, 0, 0, 0, 0, 0, 0)}, {whole(2, 0), whole(2, 3, 0, 0, 0, 0, 0, 0), whole(0, 3)}, {whole(2, 0), whole(2, 0), whole(0, 0)}, {whole(2, 3, 1, 2, 3, 4, 5, 6), whole(2, 0), whole(3, 0)}, {whole(0, most), whole(0, most), matOf(noughtsOf(most, most))},
		{rats(2, 2, over(1, 2), over(1, 3), over(1, 4), over(1, 5)), rats(2, 1, over(1, 1), over(1, 7)), rats(2, 1, over(64, 7), over(-75, 7))},
	} {
		for way, a := range forms(c.a) {
			got, e := qmat.Solve(a, forms(c.b)[(3*way+1)%8])
			expect(t, "Solve", got, e, c.want)
		}
	}
	for _, c := range [][2]qmat.Mat{
		{whole(2, 1, 1, 1), whole(2, 1, 1, 2)}, {whole(1, 1, 0), whole(1, 1, 5)}, {whole(2, 0), whole(2, 1, 0, 1)}, {whole(2, 0), whole(2, 3, 0, 0, 0, 0, 0, 9)}, {whole(2, 2, 1, 2, 2, 4), whole(2, 2, 1, 1, 2, 3)}, {whole(2, 2, 1, 2, 2, 4), whole(2, 2, 1, 1, 3, 2)}, {whole(3, 2, 1, 0, 0, 1, 1, 1), whole(3, 1, 2, 3, 4)},
		{whole(2, 2, 0, 0, 0, 1), parts(1000, 2, 1, 1, 0)}, {whole(2, 2, 0, 0, 0, 0), whole(2, 1, 0, -1)},
	} {
		for way, a := range forms(c[0]) {
			got, e := qmat.Solve(a, forms(c[1])[(3*way+1)%8])
			expectError(t, "there is none", got, e, api.ErrNone)
		}
	}
}

// P13.2: Solve's errors: that of what isn't formed, and that of other rows, ahead of that
// of equations without an x.
func TestSolveWrong(t *testing.T) {
	for _, c := range [][2]qmat.Mat{{whole(2, 2, 1, 2, 3, 4), whole(1, 2, 1, 2)}, {whole(2, 1, 1, 1), whole(1, 2, 1, 2)}, {whole(2, 1, 0, 0), whole(3, 1, 1, 1, 1)}, {whole(0, 2), whole(2, 0)}, {whole(0, 0), whole(1, 0)}, {whole(1, 0), whole(0, 0)}} {
		got, e := qmat.Solve(c[0], c[1])
		expectError(t, "other rows", got, e, api.ErrShape)
		got, e = qmat.Solve(c[1], c[0])
		expectError(t, "other rows", got, e, api.ErrShape)
	}
	for _, a := range unformed() {
		for _, b := range append(samples(), unformed()...) {
			got, e := qmat.Solve(a, b)
			expectError(t, "the first", got, e, api.ErrShape)
			got, e = qmat.Solve(b, a)
			expectError(t, "the second", got, e, api.ErrShape)
		}
	}
}

// P13.2: what isn't formed.
func TestReduceOfUnformed(t *testing.T) {
	for _, a := range unformed() {
		got, pivots, e := qmat.Reduce(a)
		expectError(t, "Reduce", got, e, api.ErrShape)
		if len(pivots) != 0 {
			t.Fatal(pivots)
		}
		got, e = qmat.Inverse(a)
		expectError(t, "Inverse", got, e, api.ErrShape)
		got, e = qmat.Kernel(a)
		expectError(t, "Kernel", got, e, api.ErrShape)
	}
}

// P13.2: kernels that are easily reckoned.
func TestKernel(t *testing.T) {
	for _, c := range [][2]qmat.Mat{
		{whole(1, 3, 1, 2, -3), whole(3, 2, -2, 3, 1, 0, 0, 1)}, {whole(0, 2), whole(2, 2, 1, 0, 0, 1)}, {whole(0, 0), whole(0, 0)}, {whole(3, 0), whole(0, 0)}, {whole(2, 2, 1, 2, 3, 4), whole(2, 0)}, {whole(1, 1, 0), whole(1, 1, 1)}, {whole(2, 2, 0, 0, 0, 0), whole(2, 2, 1, 0, 0, 1)}, {whole(1, 1, 5), whole(1, 0)},
		{whole(1, 3, 0, 2, 3), rats(3, 2, over(1, 1), over(0, 1), over(0, 1), over(-3, 2), over(0, 1), over(1, 1))}, {whole(3, 4, 1, 2, 1, 0, 2, 4, 0, 2, 3, 6, 1, 2), whole(4, 2, -2, -1, 1, 0, 0, 1, 0, 1)}, {whole(1, 4, 0, 0, 1, 0), whole(4, 3, 1, 0, 0, 0, 1, 0, 0, 0, 0, 0, 0, 1)}, {rats(1, 2, over(1, 2), over(1, 3)), rats(2, 1, over(-2, 3), over(1, 1))},
	} {
		for _, a := range forms(c[0]) {
			got, e := qmat.Kernel(a)
			expect(t, "Kernel", got, e, c[1])
		}
	}
	got, e := qmat.Kernel(whole(0, most))
	expectTable(t, "of no rows", got, e, unitsOf(most))
}

// each hands on all matrices of these sides, with numbers from -span to span.
func each(r, c int, span int64, hand func(a qmat.Mat)) {
	l := slices.Repeat([]int64{-span}, r*c)
	for {
		hand(whole(r, c, l...))
		at := slices.IndexFunc(l, func(x int64) bool { return x < span })
		if at < 0 {
			return
		}
		for i := range at {
			l[i] = -span
		}
		l[at]++
	}
}

// P13.2: all matrices of few small numbers, of each rank and each order of rows.
func TestAllSmallMatrices(t *testing.T) {
	for _, c := range [][3]int{{1, 1, 9}, {2, 2, 2}, {3, 3, 1}, {1, 3, 2}, {3, 1, 2}, {2, 3, 1}, {3, 2, 1}, {2, 4, 1}, {4, 2, 1}} {
		each(c[0], c[1], int64(c[2]), func(a qmat.Mat) { checkAll(t, a) })
	}
}

// P13.2: all equations of two rows and columns, or fewer, of small numbers.
func TestAllSmallEquations(t *testing.T) {
	for _, c := range [][3]int{{2, 2, 1}, {2, 1, 2}, {1, 2, 2}, {3, 1, 1}, {2, 0, 1}, {1, 1, 3}} {
		each(c[0], c[1], int64(c[2]), func(a qmat.Mat) {
			each(c[0], 1, 2, func(b qmat.Mat) { checkSolve(t, a, b) })
		})
	}
	each(2, 2, 1, func(a qmat.Mat) {
		each(2, 2, 1, func(b qmat.Mat) { checkSolve(t, a, b) })
	})
}

// P13.2: samples, however they are written, and all pairs of them.
func TestReduceOfSamples(t *testing.T) {
	list := samples()
	for i, a := range list {
		for _, b := range forms(a) {
			checkAll(t, b)
		}
		for k, b := range list {
			checkSolve(t, a, b)
			if a.R == b.R && a.C < most && b.C < most {
				checkSolve(t, written(a, i), written(b, k))
			}
		}
	}
}

// P13.2: drawn matrices of all ranks, with columns that hang on those ahead.
func TestReduceOfDrawn(t *testing.T) {
	source := rand.New(rand.NewSource(148))
	for range 300 {
		r, c := source.Intn(6), source.Intn(6)
		checkAll(t, drawn(source, r, c, 1+source.Intn(2)))
		checkAll(t, drawnNext(source, r, c))
		checkAll(t, drawn(source, r, r, 1))
		checkAll(t, drawnNext(source, r, r))
		checkAll(t, drawnOfRank(source, r, c, source.Intn(5), 1))
		checkAll(t, drawnOfRank(source, r, r, max(0, r-1), 1))
	}
	for size := 6; size <= 9; size++ {
		checkAll(t, drawnOfRank(source, size, size, size-1, 1))
		checkAll(t, drawnNext(source, size, size))
		checkAll(t, drawnNext(source, size, size+3))
	}
	checkAll(t, drawn(source, 3, 4, 30))
}

// P13.2: drawn equations, with an x and without, many of a rank that isn't full.
func TestDrawnEquations(t *testing.T) {
	source := rand.New(rand.NewSource(149))
	for range 300 {
		r, c, n := source.Intn(6), source.Intn(6), source.Intn(4)
		for _, a := range []qmat.Mat{drawn(source, r, c, 1), drawnNext(source, r, c), drawnOfRank(source, r, c, source.Intn(4), 1)} {
			checkSolve(t, a, drawnNext(source, r, n))
			b := matOf(productOf(tableOf(a), tableOf(drawn(source, c, n, 1))))
			checkSolve(t, a, b)
			if r > 0 && n > 0 {
				at := source.Intn(r * n)
				b.A[at] = rat.Add(b.A[at], over(1, 3))
				checkSolve(t, a, b)
			}
		}
	}
	checkSolve(t, drawn(source, 3, 3, 20), drawn(source, 3, 2, 20))
}

// P13.2: rows, and columns of the right side, that have much in common, or much above and
// little below.
func TestScaledEquations(t *testing.T) {
	source := rand.New(rand.NewSource(150))
	scales := []rat.Rat{over(1, 1), over(-30, 1), over(1, 30), {N: small(7), D: long(false, 0, 0, 5)}, {N: long(true, 0, 0, 6), D: small(35)}, {N: long(false, top, top), D: long(false, 1, top)}}
	for range 200 {
		r, c, n := 1+source.Intn(4), 1+source.Intn(4), 1+source.Intn(3)
		a, b := drawnNext(source, r, c), drawnNext(source, r, n)
		if source.Intn(2) == 0 {
			b = matOf(productOf(tableOf(a), tableOf(drawnNext(source, c, n))))
		}
		rows, columns := source.Perm(len(scales)), source.Perm(len(scales))
		left := qmatBy(r, c, func(i, k int) rat.Rat { return rat.Mul(a.A[i*c+k], scales[rows[i]]) })
		right := qmatBy(r, n, func(i, k int) rat.Rat { return rat.Mul(b.A[i*n+k], scales[columns[k]]) })
		checkSolve(t, left, right)
		checkAll(t, left)
		both := qmatBy(r, n, func(i, k int) rat.Rat { return rat.Mul(right.A[i*n+k], scales[rows[i]]) })
		checkSolve(t, left, both)
	}
}
