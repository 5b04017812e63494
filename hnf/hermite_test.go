package hnf_test

import (
	"math"
	"math/big"
	"math/rand"
	"slices"
	"testing"

	"quincunx/api"
	"quincunx/hnf"
	"quincunx/zint"
	"quincunx/zmat"
)

// checkMade holds that the answers are normal, H is in Hermite's form, and U is
// unimodular and makes it. There is one such H.
func checkMade(t *testing.T, a zmat.Mat) (table, table) {
	t.Helper()
	h, u, e := hnf.Hermite(a)
	if e != api.OK || !isNormal(h) || !isNormal(u) || h.R != a.R || h.C != a.C || u.R != a.R || u.C != a.R {
		t.Fatal("Hermite of", brief(a), e, brief(h), brief(u))
	}
	form, maker := tableOf(h), tableOf(u)
	if !form.isHermite() || !hnf.Is(h) {
		t.Fatal("not in Hermite's form:", brief(a), brief(form))
	}
	if !maker.isUnimodular() {
		t.Fatal("not unimodular:", brief(a), brief(maker))
	}
	if !productOf(maker, tableOf(a)).same(form) {
		t.Fatal("something else is made:", brief(a), brief(maker), brief(form))
	}
	return form, maker
}

// checkHermite holds the form against Euclid's way too.
func checkHermite(t *testing.T, a zmat.Mat) {
	t.Helper()
	form, _ := checkMade(t, a)
	if want := tableOf(a).hermite(); !form.same(want) {
		t.Fatal("another form:", brief(a), brief(form), brief(want))
	}
}

// each hands on all matrices of these sides, with numbers from least to greatest.
func each(r, c int, least, greatest int64, hand func(a zmat.Mat)) {
	l := slices.Repeat([]int64{least}, r*c)
	for {
		hand(mat(r, c, l...))
		at := 0
		for at < len(l) && l[at] == greatest {
			l[at] = least
			at++
		}
		if at == len(l) {
			return
		}
		l[at]++
	}
}

// P14.1: forms that are easily reckoned.
func TestHermite(t *testing.T) {
	for _, c := range []struct{ a, want zmat.Mat }{
		{mat(2, 1, 4, 6), mat(2, 1, 2, 0)}, {mat(0, 0), mat(0, 0)}, {mat(0, 3), mat(0, 3)}, {mat(3, 0), mat(3, 0)}, {mat(1, 1, 0), mat(1, 1, 0)}, {mat(1, 1, 7), mat(1, 1, 7)}, {mat(1, 1, -7), mat(1, 1, 7)}, {mat(1, 3, 0, -2, 3), mat(1, 3, 0, 2, -3)},
		{mat(2, 2, 0, -3, 0, 5), mat(2, 2, 0, 1, 0, 0)}, {mat(2, 2, 0, 0, 0, 0), mat(2, 2, 0, 0, 0, 0)}, {mat(2, 2, 1, 2, 3, 4), mat(2, 2, 1, 0, 0, 2)}, {mat(2, 2, 0, 1, 1, 0), mat(2, 2, 1, 0, 0, 1)}, {mat(2, 2, 2, 4, 1, 2), mat(2, 2, 1, 2, 0, 0)}, {mat(2, 2, 6, 1, 4, 1), mat(2, 2, 2, 0, 0, 1)},
		{mat(2, 2, 0, 0, 5, 7), mat(2, 2, 5, 7, 0, 0)}, {mat(2, 2, 0, 0, -5, 7), mat(2, 2, 5, -7, 0, 0)}, {mat(2, 2, 3, 0, 0, -4), mat(2, 2, 3, 0, 0, 4)}, {mat(2, 2, 3, -1, 0, 4), mat(2, 2, 3, 3, 0, 4)}, {mat(2, 2, 3, 4, 0, 4), mat(2, 2, 3, 0, 0, 4)},
		{mat(2, 3, 1, 2, 3, 2, 4, 7), mat(2, 3, 1, 2, 0, 0, 0, 1)}, {mat(3, 1, 6, 10, 15), mat(3, 1, 1, 0, 0)}, {mat(3, 1, -6, 0, 9), mat(3, 1, 3, 0, 0)}, {mat(3, 3, 2, 0, 0, 0, 3, 0, 0, 0, 5), mat(3, 3, 2, 0, 0, 0, 3, 0, 0, 0, 5)}, {mat(3, 2, 2, 0, 0, 3, 1, 1), mat(3, 2, 1, 0, 0, 1, 0, 0)},
		{mat(3, 3, 1, 2, 3, 4, 5, 6, 7, 8, 9), mat(3, 3, 1, 2, 3, 0, 3, 6, 0, 0, 0)}, {mat(3, 3, 0, 0, 2, 0, 3, 0, 5, 0, 0), mat(3, 3, 5, 0, 0, 0, 3, 0, 0, 0, 2)}, {mat(3, 3, 2, 3, 6, 2, 5, 6, 16, 5, 18), mat(3, 3, 2, 0, 36, 0, 1, 30, 0, 0, 60)},
		{ints(2, 1, long(false, 0, 6), long(true, 0, 0, 4)), ints(2, 1, long(false, 0, 2), small(0))}, {mat(2, 1, math.MinInt64, math.MaxInt64), mat(2, 1, 1, 0)}, {mat(1, 1, math.MinInt64), ints(1, 1, long(false, 1<<63))},
	} {
		for _, a := range forms(c.a) {
			h, _, e := hnf.Hermite(a)
			expectTable(t, "Hermite", h, e, tableOf(c.want))
			checkHermite(t, a)
		}
	}
}

// P14.1: all matrices of few small numbers.
func TestAllSmallMatrices(t *testing.T) {
	check := func(a zmat.Mat) { checkHermite(t, a) }
	each(1, 1, -9, 9, check)
	each(1, 3, -2, 2, check)
	each(3, 1, -4, 4, check)
	each(2, 2, -4, 4, check)
	each(2, 3, -1, 2, check)
	each(3, 2, -2, 1, check)
	each(4, 2, -1, 1, check)
	each(3, 3, -1, 1, check)
}

// P14.1: samples, however they are written.
func TestSamples(t *testing.T) {
	for _, a := range samples() {
		for _, b := range forms(a) {
			checkHermite(t, b)
		}
	}
}

// P14.1: drawn matrices, of all ranks.
func TestDrawn(t *testing.T) {
	source := rand.New(rand.NewSource(141))
	for range 1500 {
		r, c := source.Intn(7), source.Intn(7)
		checkHermite(t, drawn(source, r, c, 1+source.Intn(3)))
		checkHermite(t, drawnNext(source, r, c))
		checkHermite(t, drawnOfRank(source, r, c, source.Intn(4), 1))
	}
	checkHermite(t, drawn(source, 3, 3, 60))
	checkHermite(t, drawn(source, 2, 1, 200))
}

// P14.1, P14.3: rows that have come of a form by turns come to that one again.
func TestFormsThatAreKnown(t *testing.T) {
	source := rand.New(rand.NewSource(142))
	for range 1500 {
		r, c := 1+source.Intn(8), source.Intn(9)
		want := drawnForm(source, r, c)
		if !want.isHermite() {
			t.Fatal("what is drawn isn't in Hermite's form", want)
		}
		form, _ := checkMade(t, matOf(want.turned(source, source.Intn(60))))
		if !form.same(want) {
			t.Fatal(form, want)
		}
	}
}

// P14.1: a matrix in Hermite's form is its own one.
func TestFormsStay(t *testing.T) {
	source := rand.New(rand.NewSource(143))
	for range 500 {
		want := drawnForm(source, source.Intn(7), source.Intn(9))
		form, _ := checkMade(t, matOf(want))
		if !form.same(want) || !hnf.Is(matOf(want)) {
			t.Fatal(form, want)
		}
	}
}

// P14.1: Is of what is in the form, and of what isn't for just one thing.
func TestIs(t *testing.T) {
	for _, c := range []struct {
		a  zmat.Mat
		is bool
	}{
		{mat(0, 0), true}, {mat(0, 3), true}, {mat(3, 0), true}, {mat(most, 0), true}, {mat(0, most), true}, {mat(1, 1, 0), true}, {mat(1, 1, 5), true}, {mat(1, 1, -5), false}, {mat(1, 3, 0, 2, -9), true}, {mat(1, 3, 0, -2, 9), false}, {mat(2, 1, 1, 0), true}, {mat(2, 1, 0, 1), false}, {mat(2, 1, 1, 1), false}, {mat(2, 1, 2, 1), false},
		{mat(2, 2, 0, 0, 0, 0), true}, {mat(2, 2, 1, 0, 0, 1), true}, {mat(2, 2, 0, 1, 1, 0), false}, {mat(2, 2, 3, 0, 0, 4), true}, {mat(2, 2, 3, 3, 0, 4), true}, {mat(2, 2, 3, 4, 0, 4), false}, {mat(2, 2, 3, 5, 0, 4), false}, {mat(2, 2, 3, -1, 0, 4), false}, {mat(2, 2, 3, 0, 0, -4), false}, {mat(2, 2, 3, 0, 1, 4), false}, {mat(2, 2, 0, 3, 0, 4), false}, {mat(2, 2, 0, 3, 0, 0), true}, {mat(2, 2, 0, 0, 0, 3), false}, {mat(2, 2, 0, 0, 3, 0), false},
		{mat(2, 3, 2, 1, 0, 0, 3, 5), true}, {mat(2, 3, 2, 1, -7, 0, 3, -5), true}, {mat(2, 3, 2, 9, 1, 0, 0, 2), true}, {mat(2, 3, 2, 9, 2, 0, 0, 2), false}, {mat(2, 3, 0, 0, 2, 0, 3, 5), false}, {mat(3, 3, 2, 1, 6, 0, 2, 0, 0, 0, 15), true}, {mat(3, 3, 2, 1, 15, 0, 2, 0, 0, 0, 15), false}, {mat(3, 3, 2, 1, 6, 0, 2, -1, 0, 0, 15), false}, {mat(3, 3, 2, 1, 6, 0, 2, 15, 0, 0, 15), false}, {mat(3, 3, 2, 1, 6, 0, 0, 0, 0, 0, 15), false},
		{mat(3, 3, 1, 0, 0, 0, 0, 0, 0, 0, 0), true}, {mat(3, 3, 0, 0, 0, 1, 0, 0, 0, 0, 0), false}, {mat(3, 3, 0, 2, 1, 0, 0, 3, 0, 0, 0), true}, {ints(2, 2, long(false, 0, 1), long(false, top), small(0), long(false, 0, 1)), true}, {ints(2, 2, long(false, 0, 1), long(false, 0, 1), small(0), long(false, 0, 1)), false}, {ints(2, 2, small(1), long(false, 0, 1), small(0), small(1)), false},
	} {
		for _, a := range forms(c.a) {
			if hnf.Is(a) != c.is || tableOf(a).isHermite() != c.is {
				t.Fatal(a, c.is)
			}
		}
	}
	for _, a := range unformed() {
		if hnf.Is(a) {
			t.Fatal("not formed", a)
		}
	}
}

// P14.1: Is against the chapter's words: of all matrices of few small numbers, of forms
// of which one number is another one, and of samples.
func TestIsByWords(t *testing.T) {
	check := func(a zmat.Mat) {
		if is := hnf.Is(a); is != tableOf(a).isHermite() {
			t.Fatal(a, is)
		}
	}
	each(2, 2, -2, 3, check)
	each(3, 2, -1, 2, check)
	each(2, 3, -1, 2, check)
	each(3, 3, -1, 1, check)
	source := rand.New(rand.NewSource(144))
	for range 3000 {
		a := drawnForm(source, 1+source.Intn(6), 1+source.Intn(7))
		at := source.Intn(len(a.at))
		for _, by := range []int64{-25, -1, 1, 2, 25} {
			kept := a.at[at]
			a.at[at] = new(big.Int).Add(kept, big.NewInt(by))
			check(matOf(a))
			a.at[at] = kept
		}
		if a.r > 1 {
			a.swap(source.Intn(a.r), source.Intn(a.r))
			check(matOf(a))
		}
	}
	for _, a := range samples() {
		check(a)
	}
}

// P14.1: Pivots, of each row that isn't noughts, wherever it stands.
func TestPivots(t *testing.T) {
	for _, c := range []struct {
		a    zmat.Mat
		want []int
	}{
		{mat(0, 0), nil}, {mat(0, 3), nil}, {mat(3, 0), nil}, {mat(1, 1, 0), nil}, {mat(1, 1, -5), []int{0}}, {mat(2, 2, 0, 0, 0, 0), nil}, {mat(2, 3, 2, 1, 0, 0, 3, 5), []int{0, 1}}, {mat(2, 3, 0, 0, -2, 1, 0, 0), []int{2, 0}}, {mat(3, 3, 0, 2, 1, 0, 0, 0, 0, -3, 0), []int{1, 1}}, {mat(3, 2, 0, 0, 0, 7, 0, 0), []int{1}},
		{mat(4, 4, 0, 2, 0, 0, 1, 0, 0, 0, 0, 0, 0, 3, 0, 0, 5, 0), []int{1, 0, 3, 2}}, {mat(3, 1, 1, 2, 3), []int{0, 0, 0}}, {mat(1, 4, 0, 0, 0, 1), []int{3}},
	} {
		for _, a := range forms(c.a) {
			if got := hnf.Pivots(a); !slices.Equal(got, c.want) {
				t.Fatal(a, got, c.want)
			}
		}
	}
	for _, a := range unformed() {
		if got := hnf.Pivots(a); len(got) != 0 {
			t.Fatal("not formed", a, got)
		}
	}
	source := rand.New(rand.NewSource(145))
	for range 1000 {
		a := drawnNext(source, source.Intn(7), source.Intn(7))
		if got := hnf.Pivots(a); !slices.Equal(got, tableOf(a).leads()) {
			t.Fatal(a, got)
		}
	}
}

// P14.1, P14.2: ErrShape of what isn't formed, ahead of all else.
func TestUnformed(t *testing.T) {
	good := mat(2, 2, 1, 0, 0, 1)
	for _, a := range unformed() {
		h, u, e := hnf.Hermite(a)
		expectNoMat(t, "Hermite", h, e, api.ErrShape)
		expectNoMat(t, "Hermite's U", u, e, api.ErrShape)
		lattice, e := hnf.Lattice(a)
		expectNoMat(t, "Lattice", lattice, e, api.ErrShape)
		for _, b := range []zmat.Mat{a, good, mat(2, 0), mat(0, 3), mat(1, 1, 5)} {
			first, e := hnf.Within(a, b)
			expectError(t, "Within", e, api.ErrShape)
			second, e := hnf.Within(b, a)
			expectError(t, "Within", e, api.ErrShape)
			if first || second {
				t.Fatal("beside an error", a, b)
			}
		}
		for _, n := range []int{0, 1, 2, 3, most, most + 1} {
			got, e := hnf.Coordinates(a, make([]zint.Int, n))
			expectError(t, "Coordinates", e, api.ErrShape)
			if len(got) != 0 {
				t.Fatal("beside an error", a, got)
			}
		}
	}
}
