package bareiss_test

import (
	"math/big"
	"math/rand"
	"testing"

	"quincunx/api"
	"quincunx/bareiss"
	"quincunx/zint"
	"quincunx/zmat"
)

// detOf is Det of a matrix that has one.
func detOf(t *testing.T, a zmat.Mat) zint.Int {
	t.Helper()
	det, e := bareiss.Det(a)
	if e != api.OK {
		t.Fatal("the error", e)
	}
	return det
}

// rankOf is Rank of a formed matrix.
func rankOf(t *testing.T, a zmat.Mat) int {
	t.Helper()
	rank, e := bareiss.Rank(a)
	if e != api.OK {
		t.Fatal("the error", e)
	}
	return rank
}

// checkAdjugate holds that a times its adjugate, and the other way round, is the
// determinant times the identity.
func checkAdjugate(t *testing.T, a zmat.Mat) {
	t.Helper()
	ok := must(t)
	adjugate, det := ok(bareiss.Adjugate(a)), detOf(t, a)
	want := tableOf(ok(zmat.Scale(ok(zmat.Identity(a.R)), det)))
	got, e := zmat.Mul(a, adjugate)
	expectTable(t, "a times its adjugate", got, e, want)
	got, e = zmat.Mul(adjugate, a)
	expectTable(t, "the adjugate times a", got, e, want)
	turned, e := bareiss.Adjugate(ok(zmat.Transpose(a)))
	expectTable(t, "a's adjugate, turned", turned, e, tableOf(ok(zmat.Transpose(adjugate))))
}

// checkProduct holds that determinants of products are products, and adjugates' in the
// other order.
func checkProduct(t *testing.T, a, b zmat.Mat) {
	t.Helper()
	ok := must(t)
	product := ok(zmat.Mul(a, b))
	want := new(big.Int).Mul(valueOf(detOf(t, a)), valueOf(detOf(t, b)))
	expectInt(t, "the product's determinant", detOf(t, product), api.OK, want)
	got, e := bareiss.Adjugate(product)
	expectTable(t, "the product's adjugate", got, e, tableOf(ok(zmat.Mul(ok(bareiss.Adjugate(b)), ok(bareiss.Adjugate(a))))))
	if rankOf(t, product) > min(rankOf(t, a), rankOf(t, b)) {
		t.Fatal("a product's rank", a, b)
	}
}

// checkTurns holds what becomes of the determinant where a row is turned.
func checkTurns(t *testing.T, a zmat.Mat, i, k int, x zint.Int) {
	t.Helper()
	ok := must(t)
	det := valueOf(detOf(t, a))
	negative := new(big.Int).Neg(det)
	expectInt(t, "a turned", detOf(t, ok(zmat.Transpose(a))), 0, det)
	expectInt(t, "a row's negative", detOf(t, ok(zmat.NegRow(a, i))), 0, negative)
	scaled := new(big.Int).Mul(det, new(big.Int).Exp(valueOf(x), big.NewInt(int64(a.R)), nil))
	expectInt(t, "x a", detOf(t, ok(zmat.Scale(a, x))), 0, scaled)
	if i != k {
		expectInt(t, "rows that change places", detOf(t, ok(zmat.SwapRows(a, i, k))), 0, negative)
		expectInt(t, "a row with another one's multiple", detOf(t, ok(zmat.AddRow(a, i, k, x))), 0, det)
	}
	sum := new(big.Int)
	for at := range a.C {
		part := ok(bareiss.Without(a, i, at))
		minor := new(big.Int).Mul(valueOf(detOf(t, part)), valueOf(zmat.At(a, i, at)))
		if (i+at)%2 != 0 {
			minor.Neg(minor)
		}
		sum.Add(sum, minor)
	}
	expectInt(t, "by any row", intOf(sum), 0, det)
}

// checkRanks holds the rank against that of what is turned, joined, or made less.
func checkRanks(t *testing.T, a, b zmat.Mat) {
	t.Helper()
	ok := must(t)
	rank, other := rankOf(t, a), rankOf(t, b)
	_, pivots, _ := bareiss.Echelon(a)
	if rankOf(t, ok(zmat.Transpose(a))) != rank || len(pivots) != rank || rankOf(t, ok(zmat.Stack(a, a))) != rank {
		t.Fatal(a, rank, pivots)
	}
	if both := rankOf(t, ok(zmat.Stack(a, b))); both < max(rank, other) || both > rank+other {
		t.Fatal(a, b, both)
	}
	for i := range a.R {
		for k := range a.C {
			if less := rankOf(t, ok(bareiss.Without(a, i, k))); less > rank || less < rank-2 {
				t.Fatal(a, i, k, less)
			}
		}
	}
}

// P12.4: samples.
func TestLawsOfSamples(t *testing.T) {
	source := rand.New(rand.NewSource(129))
	for _, a := range squares() {
		checkAdjugate(t, a)
		checkProduct(t, a, drawn(source, a.R, a.R, 2))
		checkProduct(t, drawn(source, a.R, a.R, 2), a)
		checkProduct(t, a, a)
		if a.R > 0 {
			checkTurns(t, a, 0, a.R-1, small(-3))
		}
	}
	for _, a := range samples() {
		if a.R <= most/2 {
			checkRanks(t, a, drawnNext(source, 2, a.C))
		}
	}
}

// P12.4: drawn matrices of all ranks.
func TestLaws(t *testing.T) {
	source := rand.New(rand.NewSource(130))
	for range 500 {
		n, c := source.Intn(6), source.Intn(6)
		a, b := drawn(source, n, n, 3), drawnNext(source, n, n)
		flat := drawnOfRank(source, n, n, max(0, n-1-source.Intn(2)), 2)
		checkAdjugate(t, a)
		checkAdjugate(t, b)
		checkAdjugate(t, flat)
		checkProduct(t, a, b)
		checkProduct(t, b, flat)
		checkRanks(t, drawnNext(source, n, c), drawnNext(source, 3, c))
		if n > 0 {
			checkTurns(t, a, source.Intn(n), source.Intn(n), drawnInt(source, 2))
			checkTurns(t, b, source.Intn(n), source.Intn(n), drawnInt(source, 2))
			checkTurns(t, flat, source.Intn(n), source.Intn(n), drawnInt(source, 1))
		}
	}
}

// P12.4: many rows.
func TestLawsOfGreatSides(t *testing.T) {
	source := rand.New(rand.NewSource(131))
	a, b := drawn(source, 30, 30, 1), drawnNext(source, 30, 30)
	checkProduct(t, a, b)
	checkAdjugate(t, a)
	checkAdjugate(t, drawnOfRank(source, 30, 30, 29, 1))
	checkAdjugate(t, drawnNext(source, most, most))
	checkTurns(t, b, 3, 20, small(-7))
}
