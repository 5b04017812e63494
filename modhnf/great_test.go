package modhnf_test

import (
	"math/big"
	"math/rand"
	"slices"
	"testing"

	"quincunx/api"
	"quincunx/hnf"
	"quincunx/modhnf"
	"quincunx/zmat"
)

// checkGreat holds that what is answered is in Hermite's form and has all rows, and that
// its index is right: layer 14's, and that of a square, by primes, the determinant.
func checkGreat(t *testing.T, a zmat.Mat) {
	t.Helper()
	h, e := modhnf.Hermite(a)
	if e != api.OK || !isNormal(h) || h.R != a.R || h.C != a.C {
		t.Fatal("Hermite of", brief(a), e, brief(h))
	}
	form := tableOf(h)
	if !form.isHermite() || len(form.leads()) != a.C || !form.has(tableOf(a)) {
		t.Fatal("not the form", brief(a), brief(form))
	}
	index, e := modhnf.Index(a)
	expectInt(t, "Index", index, e, form.index())
	multiple, e := modhnf.Multiple(a)
	expectInt(t, "Multiple", multiple, e, lastPivot(a))
	if new(big.Int).Rem(valueOf(multiple), form.index()).Sign() != 0 {
		t.Fatal("the index doesn't divide the multiple", brief(a))
	}
	want, e := hnf.Lattice(a)
	expectTable(t, "the form", matOf(form.rows(0, a.C)), e, tableOf(want))
	if a.R == a.C {
		checkDet(t, a, form)
	}
}

// checkDet holds, by primes, that the index is the determinant, without its sign.
func checkDet(t *testing.T, a zmat.Mat, form table) {
	t.Helper()
	for _, p := range primes() {
		det, index := tableOf(a).detByPrime(p), form.index()
		sum, rest := new(big.Int).Add(det, index), new(big.Int).Sub(det, index)
		if sum.Mod(sum, p).Sign() != 0 && rest.Mod(rest, p).Sign() != 0 {
			t.Fatal("the determinant", brief(a), index)
		}
	}
}

// P15.1: matrices of up to the greatest sides.
func TestGreatMatrices(t *testing.T) {
	source := rand.New(rand.NewSource(175))
	checkGreat(t, drawn(source, most, most, 1))
	checkGreat(t, drawnNext(source, most, most))
	checkGreat(t, drawn(source, most, 1, 4))
	checkGreat(t, drawn(source, 1, 1, 2000))
	checkGreat(t, drawn(source, most, 12, 2))
	checkGreat(t, drawn(source, most, 63, 1))
	checkGreat(t, drawn(source, 12, 12, 12))
	checkGreat(t, drawn(source, 3, 3, 100))
	checkGreat(t, drawn(source, 30, 2, 60))
	checkGreat(t, matOf(productOf(tableOf(drawnNext(source, most, 40)), tableOf(drawnNext(source, 40, 40)))))
}

// P15.1: ErrDomain of great matrices whose rank is one less.
func TestGreatRanks(t *testing.T) {
	source := rand.New(rand.NewSource(176))
	for _, side := range [][3]int{{most, most, 63}, {most, 30, 29}, {20, most, 20}, {most, 2, 1}, {63, most, 63}} {
		a := matOf(productOf(tableOf(drawnNext(source, side[0], side[2])), tableOf(drawnNext(source, side[2], side[1]))))
		h, e := modhnf.Hermite(a)
		expectNoMat(t, "Hermite", h, e, api.ErrDomain)
		index, e := modhnf.Index(a)
		expectNoInt(t, "Index", index, e, api.ErrDomain)
		multiple, e := modhnf.Multiple(a)
		expectNoInt(t, "Multiple", multiple, e, api.ErrDomain)
	}
}

// P15.1: many rows that have come of a form by turns.
func TestGreatFormsThatAreKnown(t *testing.T) {
	source := rand.New(rand.NewSource(177))
	for _, side := range [][2]int{{most, 0}, {20, 44}, {63, 1}, {33, 4}} {
		want := drawnFull(source, side[0], side[1])
		a := matOf(want.turned(source, 1500))
		expectTable(t, "Hermite", hermiteOf(t, a), api.OK, want)
		index, e := modhnf.Index(a)
		expectInt(t, "Index", index, e, want.index())
	}
}

// P15.1, P15.3: forms of many rows that are told by a rule: the powers' diagonal has the
// factorials; Pascal's triangle is unimodular; the diagonal's numbers stay.
func TestFormsOfKnownMatrices(t *testing.T) {
	for _, n := range []int{1, 2, 5, 16, 33, most} {
		units := tableBy(n, n, func(i, k int) *big.Int { return new(big.Int).Exp(new(big.Int), big.NewInt(int64((i-k)*(i-k))), nil) })
		pascal := tableBy(n, n, func(i, k int) *big.Int { return new(big.Int).Binomial(int64(i+k), int64(i)) })
		expectTable(t, "Pascal's triangle", hermiteOf(t, matOf(pascal)), api.OK, units)
		expectTable(t, "the identity", hermiteOf(t, matOf(units)), api.OK, units)
		diagonal := tableBy(n, n, func(i, k int) *big.Int { return new(big.Int).Mul(units.get(i, k), big.NewInt(int64(i+1)<<40)) })
		falling := tableBy(n, n, func(i, k int) *big.Int { return new(big.Int).Neg(diagonal.get(n-1-i, k)) })
		expectTable(t, "a diagonal, from the last row on, below 0", hermiteOf(t, matOf(falling)), api.OK, diagonal)
		powers := tableBy(n, n, func(i, k int) *big.Int { return new(big.Int).Exp(big.NewInt(int64(i)), big.NewInt(int64(k)), nil) })
		form := tableOf(hermiteOf(t, matOf(powers)))
		for i := range n {
			if want := new(big.Int).MulRange(1, int64(i)); form.get(i, i).Cmp(want) != 0 {
				t.Fatal(n, i, form.get(i, i), want)
			}
		}
	}
}

// P15.2: rows into great forms.
func TestGreatInserts(t *testing.T) {
	source := rand.New(rand.NewSource(178))
	for _, side := range [][3]int{{63, 63, 2}, {62, most, 1}, {63, most, 1}, {20, 30, 4}, {63, 1, 30}} {
		a := drawn(source, side[0], side[1], side[2])
		h := must(t)(hnf.Lattice(a))
		row := drawn(source, 1, a.C, side[2])
		want := must(t)(hnf.Lattice(must(t)(zmat.Stack(a, row))))
		got, e := modhnf.Insert(h, row.A)
		expectTable(t, "Insert", got, e, tableOf(want))
		form := tableOf(got)
		if !form.isHermite() || !form.has(stackOf(tableOf(a), tableOf(row))) {
			t.Fatal("not the form", side)
		}
		again, e := modhnf.Insert(h, slices.Clone(h.A[:h.C]))
		expectTable(t, "Insert of its own row", again, e, tableOf(h))
	}
}
