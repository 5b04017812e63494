package hnf_test

import (
	"math/big"
	"math/rand"
	"slices"
	"testing"

	"quincunx/api"
	"quincunx/hnf"
	"quincunx/zint"
	"quincunx/zmat"
)

// vector is the list of these numbers.
func vector(l ...int64) []zint.Int {
	return mat(1, len(l), l...).A
}

// rowOf is the list as a matrix of one row.
func rowOf(v []zint.Int) zmat.Mat {
	return zmat.Mat{R: 1, C: len(v), A: v}
}

// checkLattice holds that Lattice has just the form's rows that aren't noughts.
func checkLattice(t *testing.T, a zmat.Mat) {
	t.Helper()
	want := tableOf(a).hermite()
	got, e := hnf.Lattice(a)
	expectTable(t, "Lattice", got, e, want.rows(0, len(want.leads())))
}

// checkWithin holds Within of one row after the other, and of all of them.
func checkWithin(t *testing.T, a, b zmat.Mat) {
	t.Helper()
	form, all := tableOf(b).hermite(), true
	for i := range a.R {
		row := a.A[i*a.C : (i+1)*a.C]
		want := form.coordinates(tableOf(rowOf(row)).at) != nil
		if is, e := hnf.Within(rowOf(row), b); is != want || e != api.OK {
			t.Fatal("Within", row, b, is, e)
		}
		all = all && want
	}
	if is, e := hnf.Within(a, b); is != all || e != api.OK {
		t.Fatal("Within", a, b, is, e)
	}
}

// checkCoordinates holds Coordinates by a form: they are told in one way.
func checkCoordinates(t *testing.T, h zmat.Mat, v []zint.Int) {
	t.Helper()
	got, e := hnf.Coordinates(h, v)
	want := tableOf(h).coordinates(tableOf(rowOf(v)).at)
	if want == nil {
		expectNoList(t, got, e, api.ErrNone)
		return
	}
	expectTable(t, "Coordinates", rowOf(got), e, table{r: 1, c: h.R, at: want})
}

// expectNoList fails unless that error is answered, and no list.
func expectNoList(t *testing.T, got []zint.Int, e, want api.Errno) {
	t.Helper()
	expectError(t, "Coordinates", e, want)
	if len(got) != 0 {
		t.Fatal("beside an error", got)
	}
}

// P14.2: Lattice that is easily reckoned.
func TestLattice(t *testing.T) {
	for _, c := range []struct{ a, want zmat.Mat }{
		{mat(2, 1, 4, 6), mat(1, 1, 2)}, {mat(0, 3), mat(0, 3)}, {mat(3, 0), mat(0, 0)}, {mat(2, 2, 0, 0, 0, 0), mat(0, 2)}, {mat(2, 2, 1, 2, 3, 4), mat(2, 2, 1, 0, 0, 2)}, {mat(2, 2, 2, 4, 1, 2), mat(1, 2, 1, 2)}, {mat(3, 2, 0, 0, 0, -5, 0, 0), mat(1, 2, 0, 5)}, {mat(3, 1, 6, 10, 15), mat(1, 1, 1)}, {mat(3, 3, 1, 2, 3, 4, 5, 6, 7, 8, 9), mat(2, 3, 1, 2, 3, 0, 3, 6)},
	} {
		for _, a := range forms(c.a) {
			got, e := hnf.Lattice(a)
			expectTable(t, "Lattice", got, e, tableOf(c.want))
		}
	}
}

// P14.2: Lattice of samples, of drawn matrices, and of all of few small numbers.
func TestLatticeOfAll(t *testing.T) {
	source := rand.New(rand.NewSource(146))
	check := func(a zmat.Mat) { checkLattice(t, a) }
	for _, a := range samples() {
		check(a)
	}
	each(2, 2, -3, 3, check)
	each(3, 2, -1, 1, check)
	each(3, 3, -1, 1, check)
	for range 1000 {
		r, c := 1+source.Intn(7), source.Intn(7)
		check(drawn(source, r, c, 2))
		check(drawnNext(source, r, c))
		check(drawnOfRank(source, r, c, source.Intn(3), 1))
		check(matOf(drawnForm(source, r, c).turned(source, 30)))
	}
}

// sums holds all sums of a's rows, of up to most times each, that aren't far from 0.
func sums(a zmat.Mat, most int64) map[[2]int64]int {
	list := map[[2]int64]int{}
	for x := -most; x <= most; x++ {
		for y := -most; y <= most; y++ {
			product := productOf(tableOf(mat(1, 2, x, y)), tableOf(a))
			first, second := product.get(0, 0).Int64(), product.get(0, 1).Int64()
			if max(first, -first, second, -second) <= 3 {
				list[[2]int64{first, second}]++
			}
		}
	}
	return list
}

// P14.2: Within and Coordinates of all small rows by all small matrices: multiples that
// aren't greater than 12 make all there are.
func TestSumsOfMultiples(t *testing.T) {
	each(2, 2, -2, 2, func(a zmat.Mat) {
		list := sums(a, 12)
		h, _, _ := hnf.Hermite(a)
		each(1, 2, -3, 3, func(v zmat.Mat) {
			first, _ := zint.Small(v.A[0])
			second, _ := zint.Small(v.A[1])
			want := list[[2]int64{first, second}] > 0
			is, e := hnf.Within(v, a)
			got, coordinatesErr := hnf.Coordinates(h, v.A)
			if is != want || e != api.OK || (coordinatesErr == api.OK) != want {
				t.Fatal(a, v, is, e, got, coordinatesErr)
			}
			checkCoordinates(t, h, v.A)
		})
	})
}

// P14.2: Within that is easily told.
func TestWithin(t *testing.T) {
	even := mat(2, 2, 2, 0, 0, 2)
	for _, c := range []struct {
		a, b zmat.Mat
		is   bool
	}{
		{mat(1, 2, 2, 2), even, true}, {mat(1, 2, 1, 2), even, false}, {mat(1, 2, 2, 1), even, false}, {mat(1, 2, 0, 0), even, true}, {mat(0, 2), even, true}, {mat(0, 2), mat(0, 2), true}, {even, mat(0, 2), false}, {mat(2, 2, 0, 0, 0, 0), mat(0, 2), true}, {mat(2, 2, 0, 0, 0, 1), mat(0, 2), false}, {even, mat(3, 2, 0, 0, 0, 0, 0, 0), false},
		{mat(2, 2, 2, 4, -6, 8), even, true}, {mat(2, 2, 2, 4, -6, 7), even, false}, {mat(2, 2, 2, 3, -6, 8), even, false}, {mat(3, 2, 2, 0, 1, 0, 0, 2), even, false}, {even, mat(2, 2, 1, 0, 0, 1), true}, {even, even, true}, {mat(1, 1, 5), mat(2, 1, 4, 6), false}, {mat(1, 1, -8), mat(2, 1, 4, 6), true}, {mat(1, 2, 2, 4), mat(1, 2, 1, 2), true}, {mat(1, 2, 1, 2), mat(1, 2, 2, 4), false},
		{mat(1, 2, 2, 5), mat(1, 2, 1, 2), false}, {mat(3, 0), mat(2, 0), true}, {mat(0, 0), mat(most, 0), true}, {mat(most, 0), mat(0, 0), true}, {mat(1, 1, 7), mat(1, 1, -7), true}, {mat(1, 1, 7), mat(1, 1, 0), false}, {ints(1, 1, long(true, 0, 3)), ints(1, 1, long(false, 1<<63)), true}, {ints(1, 1, long(true, 1, 3)), ints(1, 1, long(false, 1<<63)), false},
	} {
		for _, a := range forms(c.a) {
			for _, b := range forms(c.b)[:4] {
				if is, e := hnf.Within(a, b); is != c.is || e != api.OK {
					t.Fatal(a, b, is, e)
				}
				checkWithin(t, a, b)
			}
		}
	}
}

// P14.2: Within of drawn matrices: of sums of the rows, such next to them, and others.
func TestWithinOfDrawn(t *testing.T) {
	source := rand.New(rand.NewSource(147))
	for range 600 {
		r, c := source.Intn(6), 1+source.Intn(6)
		for _, b := range []zmat.Mat{drawn(source, r, c, 2), drawnNext(source, r, c), matOf(drawnForm(source, r+1, c).turned(source, 20))} {
			times := drawn(source, source.Intn(4), b.R, 2)
			within := productOf(tableOf(times), tableOf(b))
			if is, e := hnf.Within(matOf(within), b); !is || e != api.OK {
				t.Fatal(within, b, is, e)
			}
			if len(within.at) > 0 {
				at := source.Intn(len(within.at))
				within.at[at] = new(big.Int).Add(within.at[at], big.NewInt(int64(source.Intn(5)-2)))
			}
			checkWithin(t, matOf(within), b)
			checkWithin(t, drawnNext(source, 2, c), b)
		}
	}
}

// P14.2: Within of columns that aren't as many.
func TestWithinOfOtherColumns(t *testing.T) {
	list := []zmat.Mat{mat(0, 0), mat(1, 1, 1), mat(2, 2, 1, 0, 0, 1), mat(2, 3, 1, 2, 3, 4, 5, 6), mat(0, 4), mat(5, 0), mat(0, most)}
	for _, a := range list {
		for _, b := range list {
			if is, e := hnf.Within(a, b); a.C != b.C && (is || e != api.ErrShape) {
				t.Fatal(a, b, is, e)
			}
		}
	}
	for _, c := range [][2]zmat.Mat{{mat(0, 2), mat(0, 3)}, {mat(2, 0), mat(2, 1, 1, 1)}, {mat(2, 3, 0, 0, 0, 0, 0, 0), mat(3, 2, 0, 0, 0, 0, 0, 0)}} {
		if is, e := hnf.Within(c[0], c[1]); is || e != api.ErrShape {
			t.Fatal(c, is, e)
		}
	}
}

// P14.2: Coordinates that are easily reckoned.
func TestCoordinates(t *testing.T) {
	h := mat(2, 3, 2, 1, 0, 0, 3, 5)
	for _, c := range []struct {
		h       zmat.Mat
		v, want []zint.Int
	}{
		{h, vector(4, -1, -5), vector(2, -1)}, {h, vector(0, 0, 0), vector(0, 0)}, {h, vector(2, 1, 0), vector(1, 0)}, {h, vector(0, -3, -5), vector(0, -1)}, {h, vector(2, 4, 5), vector(1, 1)}, {mat(0, 0), nil, nil}, {mat(0, 2), vector(0, 0), nil}, {mat(3, 0), nil, vector(0, 0, 0)}, {mat(2, 1, 2, 0), vector(-6), vector(-3, 0)},
		{mat(3, 3, 0, 2, 1, 0, 0, 3, 0, 0, 0), vector(0, -4, 7), vector(-2, 3, 0)}, {mat(2, 2, 0, 0, 0, 0), vector(0, 0), vector(0, 0)}, {mat(2, 2, 1, 0, 0, 1), vector(-5, 7), vector(-5, 7)}, {ints(1, 1, long(false, 0, 1)), ints(1, 1, long(true, 0, 0, 3)).A, ints(1, 1, long(true, 0, 3)).A},
	} {
		for n, a := range forms(c.h) {
			v := forms(rowOf(c.v))[n].A
			got, e := hnf.Coordinates(a, v)
			expectTable(t, "Coordinates", rowOf(got), e, tableOf(rowOf(c.want)))
			checkCoordinates(t, a, v)
		}
	}
}

// P14.2: Coordinates of what is no sum: ErrNone; of what isn't in Hermite's form: ErrArg;
// of lists that are too short or too long, ahead of that: ErrShape.
func TestNoCoordinates(t *testing.T) {
	h := mat(2, 3, 2, 1, 0, 0, 3, 5)
	for _, v := range [][]zint.Int{vector(1, 0, 0), vector(2, 0, 0), vector(2, 1, 1), vector(0, 0, 5), vector(0, 0, -1), vector(0, 3, 4), vector(4, -1, -4), vector(-1, 1, 0)} {
		got, e := hnf.Coordinates(h, v)
		expectNoList(t, got, e, api.ErrNone)
	}
	got, e := hnf.Coordinates(mat(0, 2), vector(0, 1))
	expectNoList(t, got, e, api.ErrNone)
	got, e = hnf.Coordinates(mat(2, 2, 0, 0, 0, 0), vector(1, 0))
	expectNoList(t, got, e, api.ErrNone)
	for _, a := range []zmat.Mat{mat(1, 1, -1), mat(2, 2, 0, 1, 1, 0), mat(2, 2, 0, 0, 1, 0), mat(2, 2, 3, 4, 0, 4), mat(2, 2, 3, -1, 0, 4), mat(2, 2, 1, 0, 0, -1), mat(2, 1, 1, 1)} {
		for n := range 5 {
			want := api.ErrShape
			if n == a.C {
				want = api.ErrArg
			}
			got, e := hnf.Coordinates(a, make([]zint.Int, n))
			expectNoList(t, got, e, want)
			got, e = hnf.Coordinates(a, fives(n))
			expectNoList(t, got, e, want)
		}
	}
	for n := range 6 {
		if n != 3 {
			got, e := hnf.Coordinates(h, make([]zint.Int, n))
			expectNoList(t, got, e, api.ErrShape)
		}
	}
}

// P14.2: Coordinates of drawn sums, such next to them, and others.
func TestCoordinatesOfDrawn(t *testing.T) {
	source := rand.New(rand.NewSource(148))
	for range 2000 {
		form := drawnForm(source, source.Intn(6), 1+source.Intn(7))
		h := matOf(form)
		times := drawn(source, 1, form.r, 2)
		for i := len(form.leads()); i < form.r; i++ {
			times.A[i] = noughtInts()[i%8]
		}
		v := productOf(tableOf(times), form)
		got, e := hnf.Coordinates(written(h, source.Intn(8)), written(matOf(v), source.Intn(8)).A)
		expectTable(t, "Coordinates", rowOf(got), e, tableOf(times))
		at := source.Intn(len(v.at))
		v.at[at] = new(big.Int).Add(v.at[at], big.NewInt(int64(source.Intn(7)-3)))
		checkCoordinates(t, h, matOf(v).A)
		checkCoordinates(t, h, drawnNext(source, 1, h.C).A)
	}
	a := drawn(source, 6, 6, 3)
	h, u, _ := hnf.Hermite(a)
	for i := range a.R {
		got, e := hnf.Coordinates(h, slices.Clone(a.A[i*a.C:(i+1)*a.C]))
		if e != api.OK || !productOf(tableOf(rowOf(got)), tableOf(u)).same(tableBy(1, 6, func(_, k int) *big.Int { return big.NewInt(int64(map[bool]int{true: 1}[i == k])) })) {
			t.Fatal("a's rows come of U's inverse", i, got, e)
		}
	}
}
