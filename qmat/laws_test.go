package qmat_test

import (
	"math/big"
	"math/rand"
	"slices"
	"testing"

	"quincunx/api"
	"quincunx/bareiss"
	"quincunx/qmat"
	"quincunx/rat"
	"quincunx/zint"
)

// checkRing holds the laws of sums and products: c has as many rows as b has columns, and
// d the sides of b.
func checkRing(t *testing.T, a, b, c, d qmat.Mat, x rat.Rat) {
	t.Helper()
	ok := must(t)
	product := ok(qmat.Mul(a, b))
	expect(t, "(a b) c = a (b c)", ok(qmat.Mul(product, c)), 0, ok(qmat.Mul(a, ok(qmat.Mul(b, c)))))
	sum := ok(qmat.Add(b, d))
	expect(t, "b + d = d + b", sum, 0, ok(qmat.Add(d, b)))
	expect(t, "a (b + d) = a b + a d", ok(qmat.Mul(a, sum)), 0, ok(qmat.Add(product, ok(qmat.Mul(a, d)))))
	expect(t, "(b + d) c = b c + d c", ok(qmat.Mul(sum, c)), 0, ok(qmat.Add(ok(qmat.Mul(b, c)), ok(qmat.Mul(d, c)))))
	expect(t, "(x a) b = x (a b)", ok(qmat.Mul(ok(qmat.Scale(a, x)), b)), 0, ok(qmat.Scale(product, x)))
	expect(t, "a (x b) = x (a b)", ok(qmat.Mul(a, ok(qmat.Scale(b, x)))), 0, ok(qmat.Scale(product, x)))
	expect(t, "(b + d) + -d = b", ok(qmat.Add(sum, ok(qmat.Scale(d, over(-1, 1))))), 0, b)
	expect(t, "a b, turned", ok(qmat.Transpose(product)), 0, ok(qmat.Mul(ok(qmat.Transpose(b)), ok(qmat.Transpose(a)))))
	expect(t, "a turned twice", ok(qmat.Transpose(ok(qmat.Transpose(a)))), 0, a)
}

// checkCleared holds that Over undoes Clear, and that no lesser number serves.
func checkCleared(t *testing.T, a qmat.Mat) {
	t.Helper()
	ok := must(t)
	cleared, d, e := qmat.Clear(a)
	if e != api.OK {
		t.Fatal(e)
	}
	expect(t, "Over of Clear", ok(qmat.Over(cleared, d)), 0, a)
	expect(t, "From of Clear", ok(qmat.From(cleared)), 0, ok(qmat.Scale(a, rat.Of(d))))
	again, one, e := qmat.Clear(ok(qmat.From(cleared)))
	if e != api.OK || !zint.Same(one, small(1)) || !tableOfWhole(again).same(tableOfWhole(cleared)) {
		t.Fatal("cleared twice", a)
	}
}

// sameReduced tells whether both have one reduced form, but for rows of noughts, and the
// same pivots.
func sameReduced(t *testing.T, a, b qmat.Mat) bool {
	t.Helper()
	first, pivots, e := qmat.Reduce(a)
	second, others, otherErr := qmat.Reduce(b)
	if e != api.OK || otherErr != api.OK {
		t.Fatal(e, otherErr)
	}
	size := len(pivots) * a.C
	return a.C == b.C && slices.Equal(pivots, others) && slices.EqualFunc(first.A[:size], second.A[:size], func(x, y rat.Rat) bool { return rat.Cmp(x, y) == 0 })
}

// invertible is a product of a triangle with numbers that aren't 0 on the diagonal, and
// of one turned, with its rows moved.
func invertible(source *rand.Rand, n int) qmat.Mat {
	triangle := func() table {
		return tableBy(n, n, func(i, k int) *big.Rat {
			switch {
			case i == k:
				return big.NewRat(int64(1-2*source.Intn(2)), int64(1+source.Intn(4)))
			case i < k:
				return big.NewRat(int64(source.Intn(7)-3), int64(1+source.Intn(3)))
			}
			return new(big.Rat)
		})
	}
	a := productOf(triangle(), turnedOf(triangle()))
	order := source.Perm(n)
	return matOf(tableBy(n, n, func(i, k int) *big.Rat { return a.get(order[i], k) }))
}

// stacked is a's rows, then b's.
func stacked(a, b qmat.Mat) qmat.Mat {
	return qmat.Mat{R: a.R + b.R, C: a.C, A: slices.Concat(a.A, b.A)}
}

// checkReduced holds that the reduced form hangs on the rows' multiples alone, and
// Solve and Kernel with it.
func checkReduced(t *testing.T, source *rand.Rand, a qmat.Mat) {
	t.Helper()
	ok := must(t)
	turn := invertible(source, a.R)
	other := ok(qmat.Mul(turn, a))
	reduced, _, e := qmat.Reduce(a)
	got, _, otherErr := qmat.Reduce(other)
	expect(t, "rows' multiples", got, otherErr, ok(reduced, e))
	got, _, e = qmat.Reduce(reduced)
	expect(t, "reduced twice", got, e, reduced)
	sums := ok(qmat.Mul(drawnNext(source, 3, a.R), a))
	if !sameReduced(t, a, stacked(a, sums)) || !sameReduced(t, a, stacked(sums, a)) {
		t.Fatal("rows that hang on others", a)
	}
	expect(t, "the kernel", ok(qmat.Kernel(other)), 0, ok(qmat.Kernel(a)))
	right := ok(qmat.Mul(a, drawnNext(source, a.C, 2)))
	expect(t, "solved", ok(qmat.Solve(other, ok(qmat.Mul(turn, right)))), 0, ok(qmat.Solve(a, right)))
}

// checkOthers holds that other multiples of rows have another reduced form: a row is
// joined that is no sum of them.
func checkOthers(t *testing.T, source *rand.Rand, a qmat.Mat) {
	t.Helper()
	row := drawnNext(source, 1, a.C)
	_, e := qmat.Solve(must(t)(qmat.Transpose(a)), must(t)(qmat.Transpose(row)))
	if isSum := e == api.OK; sameReduced(t, a, stacked(a, row)) != isSum {
		t.Fatal(a, row, e)
	}
}

// checkKernelLaws holds that as many columns come as are no pivots, that a makes them 0,
// and that the rank is that of layer 12.
func checkKernelLaws(t *testing.T, a qmat.Mat) {
	t.Helper()
	ok := must(t)
	_, pivots, e := qmat.Reduce(a)
	cleared, _, clearErr := qmat.Clear(a)
	rank, rankErr := bareiss.Rank(cleared)
	_, known, echelonErr := bareiss.Echelon(cleared)
	if e != api.OK || clearErr != api.OK || rankErr != api.OK || echelonErr != api.OK || rank != len(pivots) || !slices.Equal(pivots, known) {
		t.Fatal(a, pivots, rank)
	}
	kernel := ok(qmat.Kernel(a))
	expectTable(t, "a times its kernel", ok(qmat.Mul(a, kernel)), 0, noughtsOf(a.R, a.C-rank))
	_, others, e := qmat.Reduce(kernel)
	if e != api.OK || len(others) != a.C-rank {
		t.Fatal("the kernel's columns hang on one another", a, kernel)
	}
	none := ok(qmat.Kernel(kernel))
	if none.R != kernel.C || none.C != 0 {
		t.Fatal(a, none)
	}
}

// checkInverseLaws holds what an inverse is, and that Solve is the product with it.
func checkInverseLaws(t *testing.T, a, b qmat.Mat) {
	t.Helper()
	ok := must(t)
	inverse, e := qmat.Inverse(a)
	cleared, d, _ := qmat.Clear(a)
	det, _ := bareiss.Det(cleared)
	if (e == api.OK) != (zint.Sign(det) != 0) {
		t.Fatal(a, e)
	}
	if e != api.OK {
		expectError(t, "Inverse", inverse, e, api.ErrDomain)
		return
	}
	expectTable(t, "a times its inverse", ok(qmat.Mul(a, inverse)), 0, unitsOf(a.R))
	expectTable(t, "the inverse times a", ok(qmat.Mul(inverse, a)), 0, unitsOf(a.R))
	expect(t, "inverted twice", ok(qmat.Inverse(inverse)), 0, a)
	expect(t, "inverted and turned", ok(qmat.Inverse(ok(qmat.Transpose(a)))), 0, ok(qmat.Transpose(inverse)))
	expect(t, "Solve", ok(qmat.Solve(a, b)), 0, ok(qmat.Mul(inverse, b)))
	adjugate, adjugateErr := bareiss.Adjugate(cleared)
	if adjugateErr != api.OK {
		t.Fatal(adjugateErr)
	}
	expect(t, "the adjugate", ok(qmat.Scale(ok(qmat.Over(adjugate, det)), rat.Of(d))), 0, inverse)
	if product := ok(qmat.Mul(a, a)); !qmat.Same(ok(qmat.Inverse(product)), ok(qmat.Mul(inverse, inverse))) {
		t.Fatal("the inverse of a a", a)
	}
}

// P13.2, P13.3: samples.
func TestLawsOfSamples(t *testing.T) {
	source := rand.New(rand.NewSource(155))
	for n, a := range samples() {
		b, d := drawn(source, a.C, 3, 1), drawn(source, a.C, 3, 1)
		checkRing(t, a, b, drawn(source, 3, 2, 1), d, factors()[n%len(factors())])
		checkCleared(t, a)
		checkKernelLaws(t, a)
		if a.R < most {
			checkReduced(t, source, a)
		}
		if a.R < most-3 {
			checkOthers(t, source, a)
		}
	}
	for _, a := range squares() {
		checkInverseLaws(t, a, drawn(source, a.R, 2, 1))
	}
}

// P13.1 to P13.3: drawn matrices of all ranks.
func TestLaws(t *testing.T) {
	source := rand.New(rand.NewSource(156))
	for range 150 {
		r, c, n, m := source.Intn(6), source.Intn(6), source.Intn(6), source.Intn(6)
		a := drawn(source, r, c, 2)
		checkRing(t, a, drawn(source, c, n, 2), drawn(source, n, m, 2), drawnNext(source, c, n), drawnRat(source, 2))
		for _, b := range []qmat.Mat{a, drawnNext(source, r, c), drawnOfRank(source, r, c, source.Intn(4), 1)} {
			checkCleared(t, b)
			checkKernelLaws(t, b)
			checkReduced(t, source, b)
			checkOthers(t, source, b)
		}
		checkInverseLaws(t, drawnNext(source, n, n), drawn(source, n, 2, 1))
		checkInverseLaws(t, invertible(source, n), drawnNext(source, n, 3))
		checkInverseLaws(t, drawn(source, n, n, 1), drawnNext(source, n, 1))
	}
}

// P13.3: many rows.
func TestLawsOfGreatSides(t *testing.T) {
	source := rand.New(rand.NewSource(157))
	checkReduced(t, source, drawnNext(source, 20, 30))
	checkReduced(t, source, drawnOfRank(source, 20, 20, 7, 1))
	checkKernelLaws(t, drawnNext(source, 30, most))
	checkInverseLaws(t, invertible(source, 24), drawnNext(source, 24, most))
}
