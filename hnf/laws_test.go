package hnf_test

import (
	"math/big"
	"math/rand"
	"testing"

	"quincunx/api"
	"quincunx/hnf"
	"quincunx/zint"
	"quincunx/zmat"
)

// latticeOf is Lattice of a formed matrix.
func latticeOf(t *testing.T, a zmat.Mat) zmat.Mat {
	t.Helper()
	return must(t)(hnf.Lattice(a))
}

// isWithin is Within of matrices of as many columns.
func isWithin(t *testing.T, a, b zmat.Mat) bool {
	t.Helper()
	is, e := hnf.Within(a, b)
	if e != api.OK {
		t.Fatal("the error", e)
	}
	return is
}

// checkTurns holds that rows that are turned have the same form, and sums.
func checkTurns(t *testing.T, a zmat.Mat, i, k int, x zint.Int) {
	t.Helper()
	ok := must(t)
	h, _, _ := hnf.Hermite(a)
	turns := []zmat.Mat{ok(zmat.SwapRows(a, i, k)), ok(zmat.NegRow(a, i))}
	if i != k {
		turns = append(turns, ok(zmat.AddRow(a, i, k, x)))
	}
	for _, turned := range turns {
		got, _, e := hnf.Hermite(turned)
		expectTable(t, "Hermite of turned rows", got, e, tableOf(h))
		if !isWithin(t, turned, a) || !isWithin(t, a, turned) {
			t.Fatal("other sums", brief(a), brief(turned))
		}
	}
}

// checkSums holds that rows that are sums of the others change nothing, nor do noughts.
func checkSums(t *testing.T, a, times zmat.Mat) {
	t.Helper()
	ok := must(t)
	lattice := latticeOf(t, a)
	sums := ok(zmat.Mul(times, a))
	for _, more := range []zmat.Mat{sums, a, lattice, ok(zmat.New(2, a.C))} {
		if !isWithin(t, more, a) {
			t.Fatal("not within", brief(a), brief(more))
		}
		for _, both := range []zmat.Mat{ok(zmat.Stack(a, more)), ok(zmat.Stack(more, a))} {
			got, e := hnf.Lattice(both)
			expectTable(t, "Lattice of sums beside", got, e, tableOf(lattice))
		}
	}
}

// checkForm holds that the form is its own one, and of the same sums.
func checkForm(t *testing.T, a zmat.Mat) {
	t.Helper()
	h, u, e := hnf.Hermite(a)
	again, _, _ := hnf.Hermite(h)
	expectTable(t, "the form's form", again, e, tableOf(h))
	lattice := latticeOf(t, a)
	expectTable(t, "the form's Lattice", latticeOf(t, h), e, tableOf(lattice))
	expectTable(t, "the Lattice's Lattice", latticeOf(t, lattice), e, tableOf(lattice))
	if len(hnf.Pivots(h)) != lattice.R || !hnf.Is(lattice) || !isWithin(t, a, h) || !isWithin(t, h, a) {
		t.Fatal(brief(a), brief(h), brief(lattice))
	}
	one, _ := zmat.Identity(a.R)
	expectTable(t, "U's form", latticeOf(t, u), e, tableOf(one))
}

// checkScaled holds that x a has x times the form, where x is above 0, and that a isn't
// within, if x is above 1.
func checkScaled(t *testing.T, a zmat.Mat, x zint.Int) {
	t.Helper()
	ok := must(t)
	h, _, _ := hnf.Hermite(a)
	scaled := ok(zmat.Scale(a, x))
	got, _, e := hnf.Hermite(scaled)
	expectTable(t, "x a's form", got, e, tableOf(ok(zmat.Scale(h, zint.Abs(x)))))
	isOne := zint.Same(zint.Abs(x), zint.Of(1))
	if !isWithin(t, scaled, a) || isWithin(t, a, scaled) != (isOne || zmat.Zero(a)) {
		t.Fatal("x a", brief(a), brief(x))
	}
}

// checkSame holds that forms are the same just where each has the other one's rows.
func checkSame(t *testing.T, a, b zmat.Mat) {
	t.Helper()
	isEach := isWithin(t, a, b) && isWithin(t, b, a)
	if zmat.Same(latticeOf(t, a), latticeOf(t, b)) != isEach {
		t.Fatal(brief(a), brief(b))
	}
	if both := must(t)(zmat.Stack(a, b)); zmat.Same(latticeOf(t, both), latticeOf(t, b)) != isWithin(t, a, b) {
		t.Fatal(brief(a), brief(b))
	}
}

// P14.3: samples.
func TestLawsOfSamples(t *testing.T) {
	source := rand.New(rand.NewSource(149))
	for _, a := range samples() {
		checkForm(t, a)
		if a.R > 0 {
			checkTurns(t, a, 0, a.R-1, small(-3))
		}
		if a.R < most/2 {
			checkSums(t, a, drawn(source, 3, a.R, 2))
			checkSame(t, a, drawnNext(source, 2, a.C))
		}
		for _, x := range []zint.Int{small(1), small(-1), small(6), long(true, 5, 0), long(false, 0, 1)} {
			checkScaled(t, a, x)
		}
	}
}

// P14.3: drawn matrices of all ranks.
func TestLaws(t *testing.T) {
	source := rand.New(rand.NewSource(150))
	for range 400 {
		r, c := 1+source.Intn(6), source.Intn(7)
		for _, a := range []zmat.Mat{drawn(source, r, c, 2), drawnNext(source, r, c), drawnOfRank(source, r, c, source.Intn(3), 2), matOf(drawnForm(source, r, c).turned(source, 20))} {
			checkForm(t, a)
			checkTurns(t, a, source.Intn(r), source.Intn(r), drawnInt(source, 2))
			checkSums(t, a, drawn(source, source.Intn(4), r, 2))
			checkScaled(t, a, small(int64(2+source.Intn(9))))
			checkSame(t, a, drawnNext(source, r, c))
		}
	}
}

// P14.3: forms are the same just where sums are, of all pairs of small matrices.
func TestSameSums(t *testing.T) {
	var list []zmat.Mat
	each(2, 2, 0, 2, func(a zmat.Mat) { list = append(list, a) })
	for _, a := range list {
		for _, b := range list {
			checkSame(t, a, b)
		}
	}
}

// P14.3: rows times a unimodular matrix have the same form; times another one, it isn't
// the same, where rows don't hang on one another.
func TestProducts(t *testing.T) {
	source := rand.New(rand.NewSource(151))
	for range 300 {
		n, c := 1+source.Intn(5), 5+source.Intn(3)
		a, other := drawn(source, n, c, 1), drawn(source, n, n, 1)
		_, u, _ := hnf.Hermite(other)
		turned := must(t)(zmat.Mul(u, a))
		got, e := hnf.Lattice(turned)
		expectTable(t, "times a unimodular matrix", got, e, tableOf(latticeOf(t, a)))
		if len(hnf.Pivots(latticeOf(t, a))) < n {
			continue
		}
		product, det := must(t)(zmat.Mul(other, a)), tableOf(other).det()
		if isWithin(t, a, product) != (det.CmpAbs(big.NewInt(1)) == 0) {
			t.Fatal(brief(a), brief(other))
		}
	}
}

// P14.3: the product of the pivots is the determinant, where rows don't hang on one
// another.
func TestPivotsOfSquares(t *testing.T) {
	source := rand.New(rand.NewSource(152))
	for range 600 {
		n := source.Intn(6)
		for _, a := range []zmat.Mat{drawn(source, n, n, 2), drawnNext(source, n, n)} {
			form, maker := checkMade(t, a)
			product := big.NewInt(1)
			for i := range n {
				product.Mul(product, form.get(i, i))
			}
			det := tableOf(a).det()
			if product.CmpAbs(det) != 0 {
				t.Fatal(brief(a), product, det)
			}
			if det.Sign() != 0 && det.Sign() != maker.det().Sign() {
				t.Fatal("U's sign", brief(a), det)
			}
		}
	}
}
