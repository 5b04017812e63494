package modhnf_test

import (
	"math/big"
	"math/rand"
	"slices"
	"testing"

	"quincunx/api"
	"quincunx/hnf"
	"quincunx/modhnf"
	"quincunx/zint"
	"quincunx/zmat"
)

// hermiteOf is Hermite of a matrix whose rank is its number of columns.
func hermiteOf(t *testing.T, a zmat.Mat) zmat.Mat {
	t.Helper()
	return must(t)(modhnf.Hermite(a))
}

// checkBelow holds that the form's numbers aren't above the multiple, its pivots divide
// it, and their product does.
func checkBelow(t *testing.T, a zmat.Mat) {
	t.Helper()
	multiple, e := modhnf.Multiple(a)
	expectError(t, "Multiple", e, api.OK)
	m, h := valueOf(multiple), tableOf(hermiteOf(t, a))
	for i := range h.c {
		for k := range h.c {
			if x := h.get(i, k); x.Sign() < 0 || x.Cmp(m) > 0 || i != k && x.Cmp(m) >= 0 {
				t.Fatal("not below the multiple", brief(a), x, m)
			}
		}
	}
	index, e := modhnf.Index(a)
	expectInt(t, "Index", index, e, h.index())
	for _, x := range []*big.Int{valueOf(index), h.get(h.c-1, h.c-1), h.get(0, 0)} {
		if new(big.Int).Rem(m, x).Sign() != 0 {
			t.Fatal("it doesn't divide the multiple", brief(a), x, m)
		}
	}
}

// checkTurns holds that turned rows have the same form, and index.
func checkTurns(t *testing.T, source *rand.Rand, a zmat.Mat) {
	t.Helper()
	h := tableOf(hermiteOf(t, a))
	turned := matOf(tableOf(a).turned(source, 20))
	expectTable(t, "turned rows", hermiteOf(t, turned), api.OK, h)
	index, e := modhnf.Index(turned)
	expectInt(t, "turned rows' Index", index, e, h.index())
	again := hermiteOf(t, matOf(h))
	expectTable(t, "the form's form", again, api.OK, h)
}

// checkScaled holds that x a has x times the form, and x to the columns times the index.
func checkScaled(t *testing.T, a zmat.Mat, x zint.Int) {
	t.Helper()
	scaled := must(t)(zmat.Scale(a, x))
	size := new(big.Int).Abs(valueOf(x))
	want := tableOf(hermiteOf(t, a))
	index := want.index()
	for i := range want.at {
		want.at[i] = new(big.Int).Mul(want.at[i], size)
	}
	expectTable(t, "x a's form", hermiteOf(t, scaled), api.OK, want)
	got, e := modhnf.Index(scaled)
	expectInt(t, "x a's index", got, e, index.Mul(index, size.Exp(size, big.NewInt(int64(a.C)), nil)))
}

// checkMore holds that sums of the rows change nothing but the rows of noughts, and that
// a row more comes by Insert.
func checkMore(t *testing.T, source *rand.Rand, a zmat.Mat) {
	t.Helper()
	ok := must(t)
	h := tableOf(hermiteOf(t, a)).rows(0, a.C)
	sums := ok(zmat.Mul(drawn(source, 2, a.R, 2), a))
	for _, both := range []zmat.Mat{ok(zmat.Stack(a, sums)), ok(zmat.Stack(sums, a))} {
		got := hermiteOf(t, both)
		expectTable(t, "sums beside", ok(zmat.Rows(got, 0, a.C)), api.OK, h)
	}
	row := drawn(source, 1, a.C, 2)
	both := hermiteOf(t, ok(zmat.Stack(a, row)))
	got, e := modhnf.Insert(matOf(h), row.A)
	expectTable(t, "Insert", got, e, tableOf(both).rows(0, a.C))
}

// full holds drawn matrices whose rank is their number of columns.
func full(source *rand.Rand) []zmat.Mat {
	c := 1 + source.Intn(6)
	list := []zmat.Mat{drawn(source, c+source.Intn(3), c, 2), drawnNext(source, c+3, c), matOf(drawnFull(source, c, 2).turned(source, 20))}
	return slices.DeleteFunc(list, func(a zmat.Mat) bool { return !tableOf(a).isFull() })
}

// P15.3: drawn matrices.
func TestLaws(t *testing.T) {
	source := rand.New(rand.NewSource(172))
	for range 400 {
		for _, a := range full(source) {
			checkBelow(t, a)
			checkTurns(t, source, a)
			checkScaled(t, a, small(int64(2+source.Intn(9))))
			checkScaled(t, a, long(true, source.Uint64(), 1))
			checkMore(t, source, a)
		}
	}
}

// P15.1, P15.3: rows times a square have its determinant times the index.
func TestProducts(t *testing.T) {
	source := rand.New(rand.NewSource(173))
	for range 300 {
		for _, a := range full(source) {
			turn := drawn(source, a.C, a.C, 1)
			det := tableOf(turn).det()
			product := must(t)(zmat.Mul(a, turn))
			got, e := modhnf.Index(product)
			if det.Sign() == 0 {
				expectNoInt(t, "Index", got, e, api.ErrDomain)
				continue
			}
			index, _ := modhnf.Index(a)
			expectInt(t, "Index", got, e, det.Abs(det.Mul(det, valueOf(index))))
		}
	}
}

// P15.1: forms are in the form, and have just the rows' sums.
func TestSums(t *testing.T) {
	source := rand.New(rand.NewSource(174))
	for range 300 {
		for _, a := range full(source) {
			h := hermiteOf(t, a)
			there, e := hnf.Within(a, h)
			back, backErr := hnf.Within(h, a)
			if !hnf.Is(h) || !there || !back || e != api.OK || backErr != api.OK {
				t.Fatal(brief(a), brief(h))
			}
		}
	}
}
