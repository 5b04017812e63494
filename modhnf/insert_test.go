package modhnf_test

import (
	"math/big"
	"math/rand"
	"slices"
	"testing"

	"quincunx/api"
	"quincunx/hnf"
	"quincunx/modhnf"
	"quincunx/zint"
	"quincunx/zmat"
)

// vector is the list of these numbers.
func vector(l ...int64) []zint.Int {
	return mat(1, len(l), l...).A
}

// rowOf is the list as a matrix of one row.
func rowOf(v []zint.Int) zmat.Mat {
	return zmat.Mat{R: 1, C: len(v), A: v}
}

// wantInsert is what Insert answers of a list that fits: the errors, or the rows.
func wantInsert(h zmat.Mat, v []zint.Int) (table, api.Errno) {
	if !tableOf(h).isHermite() || h.R == most {
		return table{}, api.ErrArg
	}
	return stackOf(tableOf(h), tableOf(rowOf(v))).lattice(), api.OK
}

// checkInsert holds Insert against Euclid's way.
func checkInsert(t *testing.T, h zmat.Mat, v []zint.Int) {
	t.Helper()
	got, e := modhnf.Insert(h, v)
	want, wantErr := wantInsert(h, v)
	if wantErr != api.OK {
		expectNoMat(t, "Insert into "+brief(h), got, e, wantErr)
		return
	}
	expectTable(t, "Insert into "+brief(h), got, e, want)
}

// P15.2: rows that are easily inserted.
func TestInsert(t *testing.T) {
	for _, c := range []struct {
		h    zmat.Mat
		v    []zint.Int
		want zmat.Mat
	}{
		{mat(1, 2, 2, 0), vector(3, 1), mat(2, 2, 1, 1, 0, 2)}, {mat(0, 2), vector(0, -3), mat(1, 2, 0, 3)}, {mat(0, 2), vector(0, 0), mat(0, 2)}, {mat(0, 0), nil, mat(0, 0)}, {mat(3, 0), nil, mat(0, 0)}, {mat(63, 0), nil, mat(0, 0)}, {mat(1, 1, 4), vector(6), mat(1, 1, 2)}, {mat(1, 1, 4), vector(-8), mat(1, 1, 4)}, {mat(1, 1, 0), vector(-8), mat(1, 1, 8)},
		{mat(2, 2, 2, 0, 0, 3), vector(1, 1), mat(2, 2, 1, 0, 0, 1)}, {mat(2, 2, 2, 0, 0, 3), vector(2, 3), mat(2, 2, 2, 0, 0, 3)}, {mat(2, 2, 2, 0, 0, 3), vector(0, 0), mat(2, 2, 2, 0, 0, 3)}, {mat(2, 2, 2, 1, 0, 6), vector(0, 2), mat(2, 2, 2, 1, 0, 2)}, {mat(2, 2, 2, 5, 0, 6), vector(0, 2), mat(2, 2, 2, 1, 0, 2)}, {mat(3, 2, 0, 5, 0, 0, 0, 0), vector(3, -1), mat(2, 2, 3, 4, 0, 5)}, {mat(2, 2, 0, 5, 0, 0), vector(0, 7), mat(1, 2, 0, 1)},
		{mat(2, 3, 2, 1, 0, 0, 3, 5), vector(0, 0, 4), mat(3, 3, 2, 1, 0, 0, 3, 1, 0, 0, 4)}, {mat(2, 3, 2, 1, 0, 0, 3, 5), vector(2, 4, 5), mat(2, 3, 2, 1, 0, 0, 3, 5)}, {mat(1, 3, 0, 2, 4), vector(0, 3, 6), mat(1, 3, 0, 1, 2)},
	} {
		for at, h := range forms(c.h) {
			got, e := modhnf.Insert(h, forms(rowOf(c.v))[9-at].A)
			expectTable(t, "Insert", got, e, tableOf(c.want))
			checkInsert(t, h, c.v)
		}
	}
}

// P15.2: ErrShape of what isn't formed, and of lists that are too long or too short, in
// Hermite's form or not.
func TestInsertShapes(t *testing.T) {
	for _, h := range unformed() {
		for _, n := range []int{0, 1, 2, 3, max(0, min(h.C, most)), most, most + 1} {
			got, e := modhnf.Insert(h, fives(n))
			expectNoMat(t, "Insert", got, e, api.ErrShape)
		}
	}
	for _, h := range []zmat.Mat{mat(0, 0), mat(0, 2), mat(2, 0), mat(1, 1, 3), mat(1, 1, -3), mat(2, 2, 0, 1, 1, 0), mat(2, 3, 2, 1, 0, 0, 3, 5), mat(most, 1, make([]int64, most)...), mat(most, 0)} {
		for n := range 70 {
			if n != h.C {
				got, e := modhnf.Insert(h, fives(n))
				expectNoMat(t, "Insert", got, e, api.ErrShape)
			}
		}
	}
}

// P15.2: ErrArg of what isn't in Hermite's form.
func TestInsertIntoOthers(t *testing.T) {
	for _, h := range []zmat.Mat{
		mat(1, 1, -5), mat(1, 2, -2, 0), mat(2, 1, 0, 1), mat(2, 1, 1, 1), mat(2, 2, 0, 1, 1, 0), mat(2, 2, 3, 4, 0, 4), mat(2, 2, 3, -1, 0, 4), mat(2, 2, 3, 0, 0, -4), mat(2, 2, 3, 0, 1, 4), mat(2, 2, 0, 0, 0, 3), mat(2, 2, 0, 3, 0, 4), mat(3, 3, 2, 1, 15, 0, 2, 0, 0, 0, 15), mat(3, 3, 2, 1, 6, 0, 0, 0, 0, 0, 15),
	} {
		for _, form := range forms(h) {
			for _, v := range [][]zint.Int{make([]zint.Int, h.C), fives(h.C), h.A[:h.C]} {
				got, e := modhnf.Insert(form, v)
				expectNoMat(t, "Insert", got, e, api.ErrArg)
			}
		}
	}
}

// P15.2: ErrArg, where there would be more than MaxSide rows, of noughts too.
func TestInsertTooMany(t *testing.T) {
	source := rand.New(rand.NewSource(167))
	for _, c := range []int{0, 1, 2, 63, most} {
		for _, noughts := range []int{0, 1, most - c} {
			if r := c + noughts; r <= most {
				h := matOf(drawnFull(source, c, noughts))
				checkInsert(t, h, drawn(source, 1, c, 1).A)
				checkInsert(t, h, make([]zint.Int, c))
			}
		}
		none := zmat.Mat{R: most, C: c, A: make([]zint.Int, most*c)}
		got, e := modhnf.Insert(none, make([]zint.Int, c))
		expectNoMat(t, "Insert", got, e, api.ErrArg)
		if c > 0 {
			none.A[len(none.A)-1] = small(-1)
			got, e = modhnf.Insert(none, make([]zint.Int, c))
			expectNoMat(t, "Insert", got, e, api.ErrArg)
		}
	}
}

// P15.2: all small rows into all small matrices, in Hermite's form or not.
func TestAllSmallInserts(t *testing.T) {
	each(2, 2, -1, 4, func(h zmat.Mat) {
		if !tableOf(h).isHermite() {
			checkInsert(t, h, vector(1, 2))
			return
		}
		each(1, 2, -4, 4, func(v zmat.Mat) { checkInsert(t, h, v.A) })
	})
	each(1, 2, -2, 5, func(h zmat.Mat) {
		each(1, 2, -5, 5, func(v zmat.Mat) { checkInsert(t, h, v.A) })
	})
}

// P15.2: drawn rows into forms of all ranks, and into what is next to a form.
func TestInsertDrawn(t *testing.T) {
	source := rand.New(rand.NewSource(168))
	for range 1500 {
		r, c := source.Intn(6), source.Intn(7)
		for _, h := range []table{drawnForm(source, r, c), drawnFull(source, c, source.Intn(3)), tableOf(drawn(source, r, c, 2)).hermite(), tableOf(drawnOfRank(source, r, c, 2, 2)).hermite()} {
			checkInsert(t, matOf(h), drawn(source, 1, c, 1+source.Intn(3)).A)
			checkInsert(t, matOf(h), drawnNext(source, 1, c).A)
			if len(h.at) > 0 {
				at := source.Intn(len(h.at))
				h.at[at] = new(big.Int).Add(h.at[at], big.NewInt(int64(source.Intn(7)-3)))
				checkInsert(t, matOf(h), drawnNext(source, 1, c).A)
			}
		}
	}
	for _, h := range samples() {
		checkInsert(t, h, drawn(source, 1, h.C, 2).A)
	}
}

// P15.2: rows that are inserted one by one make layer 14's rows, in any order.
func TestInsertOneByOne(t *testing.T) {
	source := rand.New(rand.NewSource(169))
	for range 200 {
		r, c := source.Intn(9), source.Intn(7)
		for _, a := range []zmat.Mat{drawn(source, r, c, 2), drawnNext(source, r, c), drawnOfRank(source, r, c, 2, 1)} {
			want, _ := hnf.Lattice(a)
			order := source.Perm(r)
			for _, list := range [][]int{order, slices.Sorted(slices.Values(order))} {
				h := mat(0, c)
				for _, i := range list {
					h = must(t)(modhnf.Insert(h, a.A[i*c:(i+1)*c]))
				}
				expectTable(t, "one by one", h, api.OK, tableOf(want))
			}
		}
	}
}
