package modhnf_test

import (
	"math"
	"math/big"
	"math/rand"
	"slices"
	"testing"

	"quincunx/api"
	"quincunx/bareiss"
	"quincunx/hnf"
	"quincunx/modhnf"
	"quincunx/zint"
	"quincunx/zmat"
)

// checkForm holds that the three calls answer ErrDomain of a rank that isn't the number
// of columns; else the form by Euclid's way, its index, and layer 12's last pivot, that
// is divided by it.
func checkForm(t *testing.T, a zmat.Mat) {
	t.Helper()
	multiple, multipleErr := modhnf.Multiple(a)
	h, e := modhnf.Hermite(a)
	index, indexErr := modhnf.Index(a)
	want := tableOf(a).hermite()
	if len(want.leads()) != a.C {
		expectNoInt(t, "Multiple", multiple, multipleErr, api.ErrDomain)
		expectNoMat(t, "Hermite", h, e, api.ErrDomain)
		expectNoInt(t, "Index", index, indexErr, api.ErrDomain)
		return
	}
	expectTable(t, "Hermite of "+brief(a), h, e, want)
	expectInt(t, "Index of "+brief(a), index, indexErr, want.index())
	expectInt(t, "Multiple of "+brief(a), multiple, multipleErr, lastPivot(a))
	if new(big.Int).Rem(valueOf(multiple), valueOf(index)).Sign() != 0 {
		t.Fatal("the index doesn't divide the multiple", brief(a), brief(index), brief(multiple))
	}
}

// lastPivot is that of layer 12, without its sign; 1 of no columns.
func lastPivot(a zmat.Mat) *big.Int {
	m, pivots, _ := bareiss.Echelon(a)
	if len(pivots) == 0 {
		return big.NewInt(1)
	}
	last := len(pivots) - 1
	return new(big.Int).Abs(valueOf(m.A[last*a.C+pivots[last]]))
}

// each hands on all matrices of these sides, with numbers from least to greatest.
func each(r, c int, least, greatest int64, hand func(a zmat.Mat)) {
	l := slices.Repeat([]int64{least}, r*c)
	for {
		hand(mat(r, c, l...))
		at := 0
		for at < len(l) && l[at] == greatest {
			l[at] = least
			at++
		}
		if at == len(l) {
			return
		}
		l[at]++
	}
}

// P15.1: forms that are easily reckoned, with the index; a square's multiple is the same.
func TestForms(t *testing.T) {
	for _, c := range []struct {
		a, want zmat.Mat
		index   int64
	}{
		{mat(3, 2, 2, 0, 0, 3, 1, 1), mat(3, 2, 1, 0, 0, 1, 0, 0), 1}, {mat(0, 0), mat(0, 0), 1}, {mat(3, 0), mat(3, 0), 1}, {mat(most, 0), mat(most, 0), 1}, {mat(1, 1, 7), mat(1, 1, 7), 7}, {mat(1, 1, -7), mat(1, 1, 7), 7}, {mat(1, 1, 1), mat(1, 1, 1), 1}, {mat(1, 1, -1), mat(1, 1, 1), 1},
		{mat(2, 1, 4, 6), mat(2, 1, 2, 0), 2}, {mat(2, 1, 6, 4), mat(2, 1, 2, 0), 2}, {mat(2, 1, 0, -5), mat(2, 1, 5, 0), 5}, {mat(3, 1, 6, 10, 15), mat(3, 1, 1, 0, 0), 1}, {mat(4, 1, 6, -6, 0, 12), mat(4, 1, 6, 0, 0, 0), 6}, {mat(2, 1, 5, math.MinInt64), mat(2, 1, 1, 0), 1},
		{mat(2, 2, 1, 2, 3, 4), mat(2, 2, 1, 0, 0, 2), 2}, {mat(2, 2, 0, 1, 1, 0), mat(2, 2, 1, 0, 0, 1), 1}, {mat(2, 2, 0, -3, 5, 7), mat(2, 2, 5, 1, 0, 3), 15}, {mat(2, 2, 2, 1, 0, 3), mat(2, 2, 2, 1, 0, 3), 6}, {mat(2, 2, 3, -1, 0, 4), mat(2, 2, 3, 3, 0, 4), 12}, {mat(2, 2, 3, 4, 0, 4), mat(2, 2, 3, 0, 0, 4), 12}, {mat(2, 2, 6, 0, 0, 6), mat(2, 2, 6, 0, 0, 6), 36}, {mat(2, 2, 6, 6, 0, 6), mat(2, 2, 6, 0, 0, 6), 36},
		{mat(4, 2, 6, 4, 10, 2, 0, 8, 4, 4), mat(4, 2, 2, 0, 0, 2, 0, 0, 0, 0), 4}, {mat(3, 3, 2, 3, 6, 2, 5, 6, 16, 5, 18), mat(3, 3, 2, 0, 36, 0, 1, 30, 0, 0, 60), 120}, {mat(3, 3, 0, 0, 2, 0, 3, 0, 5, 0, 0), mat(3, 3, 5, 0, 0, 0, 3, 0, 0, 0, 2), 30}, {mat(4, 2, 0, 0, 2, 0, 0, 0, 0, 3), mat(4, 2, 2, 0, 0, 3, 0, 0, 0, 0), 6}, {mat(3, 3, 1, 0, 0, 0, 1, 0, 0, 0, -1), mat(3, 3, 1, 0, 0, 0, 1, 0, 0, 0, 1), 1},
	} {
		for _, a := range forms(c.a) {
			h, e := modhnf.Hermite(a)
			expectTable(t, "Hermite", h, e, tableOf(c.want))
			index, e := modhnf.Index(a)
			expectInt(t, "Index", index, e, big.NewInt(c.index))
			checkForm(t, a)
			if multiple, e := modhnf.Multiple(a); a.R == a.C {
				expectInt(t, "Multiple", multiple, e, big.NewInt(c.index))
			}
		}
	}
}

// P15.1: ErrDomain, where the rank isn't the number of columns.
func TestRanks(t *testing.T) {
	for _, a := range []zmat.Mat{
		mat(0, 1), mat(0, 3), mat(0, most), mat(1, 1, 0), mat(1, 2, 3, 4), mat(1, most, make([]int64, most)...), mat(2, 2, 0, 0, 0, 0), mat(2, 2, 1, 2, 2, 4), mat(2, 2, 0, 1, 0, 5), mat(2, 2, 1, 0, 5, 0), mat(3, 1, 0, 0, 0), mat(2, 3, 1, 0, 0, 0, 1, 0), mat(2, 3, 1, 2, 3, 4, 5, 7),
		mat(3, 2, 1, 2, 2, 4, -3, -6), mat(3, 3, 1, 2, 3, 4, 5, 6, 7, 8, 9), mat(4, 3, 1, 0, 1, 0, 1, 1, 1, 1, 2, 1, -1, 0), ints(1, 1, noughtInts()[7]), ints(2, 1, noughtInts()[3:5]...),
	} {
		if tableOf(a).isFull() {
			t.Fatal("of full rank", a)
		}
		for _, b := range forms(a) {
			checkForm(t, b)
		}
	}
}

// P15.1: ErrShape of what isn't formed.
func TestUnformed(t *testing.T) {
	for _, a := range unformed() {
		multiple, e := modhnf.Multiple(a)
		expectNoInt(t, "Multiple", multiple, e, api.ErrShape)
		h, e := modhnf.Hermite(a)
		expectNoMat(t, "Hermite", h, e, api.ErrShape)
		index, e := modhnf.Index(a)
		expectNoInt(t, "Index", index, e, api.ErrShape)
	}
}

// P15.1: all matrices of few small numbers.
func TestAllSmallMatrices(t *testing.T) {
	check := func(a zmat.Mat) { checkForm(t, a) }
	each(1, 1, -9, 9, check)
	each(1, 2, -2, 2, check)
	each(3, 1, -4, 4, check)
	each(2, 2, -4, 4, check)
	each(2, 3, -1, 1, check)
	each(3, 2, -2, 2, check)
	each(4, 2, -1, 1, check)
	each(3, 3, -1, 1, check)
}

// P15.1: samples, however they are written.
func TestSamples(t *testing.T) {
	for _, a := range samples() {
		for _, b := range forms(a) {
			checkForm(t, b)
		}
	}
}

// P15.1: drawn matrices, of all ranks; most have more rows than columns.
func TestDrawn(t *testing.T) {
	source := rand.New(rand.NewSource(162))
	for range 1500 {
		c := source.Intn(6)
		r := c + source.Intn(3)
		checkForm(t, drawn(source, r, c, 1+source.Intn(3)))
		checkForm(t, drawnNext(source, r+2, c))
		checkForm(t, drawnOfRank(source, r, c, source.Intn(c+1), 1))
		checkForm(t, drawn(source, source.Intn(c+1), c, 1))
	}
	checkForm(t, drawn(source, 3, 3, 60))
	checkForm(t, drawn(source, 4, 2, 60))
	checkForm(t, drawn(source, 2, 1, 200))
}

// P15.1: rows that have come of a form by turns come to that one again.
func TestFormsThatAreKnown(t *testing.T) {
	source := rand.New(rand.NewSource(163))
	for range 1500 {
		want := drawnFull(source, 1+source.Intn(8), source.Intn(4))
		a := matOf(want.turned(source, source.Intn(60)))
		h, e := modhnf.Hermite(a)
		expectTable(t, "Hermite", h, e, want)
		index, e := modhnf.Index(a)
		expectInt(t, "Index", index, e, want.index())
		again, e := modhnf.Hermite(h)
		expectTable(t, "the form's form", again, e, want)
	}
}

// P15.1: the H is layer 14's.
func TestLayer14(t *testing.T) {
	source := rand.New(rand.NewSource(164))
	for range 300 {
		c := source.Intn(12)
		for _, a := range []zmat.Mat{drawn(source, c+source.Intn(3), c, 2), drawnNext(source, c+3, c)} {
			h, e := modhnf.Hermite(a)
			want, _, _ := hnf.Hermite(a)
			switch {
			case len(hnf.Pivots(want)) != c:
				expectNoMat(t, "Hermite", h, e, api.ErrDomain)
			default:
				expectTable(t, "Hermite", h, e, tableOf(want))
			}
		}
	}
}

// P15.1: the multiple is one of the minors of as many rows as columns, but for its sign,
// and the index is the greatest common divisor of them all.
func TestMinors(t *testing.T) {
	source := rand.New(rand.NewSource(165))
	check := func(a zmat.Mat) {
		list := tableOf(a).minors()
		multiple, e := modhnf.Multiple(a)
		if !slices.ContainsFunc(list, func(x *big.Int) bool { return x.Sign() != 0 }) {
			expectNoInt(t, "Multiple", multiple, e, api.ErrDomain)
			return
		}
		if e != api.OK || !slices.ContainsFunc(list, func(x *big.Int) bool { return x.Sign() != 0 && x.CmpAbs(valueOf(multiple)) == 0 }) {
			t.Fatal("no minor", a, multiple, e)
		}
		gcd := new(big.Int)
		for _, x := range list {
			gcd.GCD(nil, nil, gcd, new(big.Int).Abs(x))
		}
		index, e := modhnf.Index(a)
		expectInt(t, "Index", index, e, gcd)
	}
	each(3, 2, -1, 2, check)
	for range 600 {
		c := source.Intn(5)
		check(drawn(source, c+source.Intn(3), c, 2))
		check(drawnNext(source, c+3, c))
		check(matOf(drawnFull(source, c+1, 2).turned(source, 20)))
	}
	for _, a := range samples() {
		if a.R <= 8 {
			check(a)
		}
	}
}

// P15.1: what is answered of a square is the determinant, without its sign.
func TestSquares(t *testing.T) {
	source := rand.New(rand.NewSource(166))
	for range 400 {
		n := source.Intn(6)
		for _, a := range []zmat.Mat{drawn(source, n, n, 2), drawnNext(source, n, n)} {
			det := tableOf(a).det()
			multiple, e := modhnf.Multiple(a)
			index, indexErr := modhnf.Index(a)
			if det.Sign() == 0 {
				expectNoInt(t, "Multiple", multiple, e, api.ErrDomain)
				expectNoInt(t, "Index", index, indexErr, api.ErrDomain)
				continue
			}
			expectInt(t, "Multiple", multiple, e, det.Abs(det))
			expectInt(t, "Index", index, indexErr, det)
		}
	}
	if _, e := modhnf.Index(zmat.Mat{R: 1, C: 1, A: []zint.Int{{Neg: true, A: []uint64{0}}}}); e != api.ErrDomain {
		t.Fatal(e)
	}
}
