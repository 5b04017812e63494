package qmat_test

import (
	"math/rand"
	"testing"

	"quincunx/api"
	"quincunx/qmat"
	"quincunx/rat"
)

// factors holds fractions to multiply by: 0 in many ways, 1, -1, and of several words.
func factors() []rat.Rat {
	list := []rat.Rat{
		over(1, 1), over(-1, 1), over(3, -3), over(1, 2), over(-2, 3), over(6, -4), over(7, 1), {N: long(false, 0, 1), D: long(true, 1, 0)}, {N: small(1), D: long(true, top, top, 1)}, {N: long(true, 0, 0, 3, 0), D: small(7)},
	}
	return append(list, noughts()...)
}

// checkAdd holds Add.
func checkAdd(t *testing.T, a, b qmat.Mat) {
	t.Helper()
	got, e := qmat.Add(a, b)
	if a.R != b.R || a.C != b.C {
		expectError(t, "Add", got, e, api.ErrShape)
		return
	}
	expectTable(t, "Add", got, e, sumOf(tableOf(a), tableOf(b)))
}

// checkMul holds Mul.
func checkMul(t *testing.T, a, b qmat.Mat) {
	t.Helper()
	got, e := qmat.Mul(a, b)
	if a.C != b.R {
		expectError(t, "Mul", got, e, api.ErrShape)
		return
	}
	expectTable(t, "Mul", got, e, productOf(tableOf(a), tableOf(b)))
}

// P13.1: sums that are easily reckoned; sides that aren't the same.
func TestAdd(t *testing.T) {
	got, e := qmat.Add(parts(6, 2, 2, 1, 2, 3, 4), parts(3, 2, 2, 1, -1, 0, 1))
	expect(t, "Add", got, e, rats(2, 2, over(1, 2), over(0, 1), over(1, 2), over(1, 1)))
	got, e = qmat.Add(whole(0, 3), whole(0, 3))
	expect(t, "Add", got, e, whole(0, 3))
	a := parts(4, 2, 3, 1, 2, 3, 4, 5, 6)
	for _, b := range []qmat.Mat{whole(3, 2, 1, 2, 3, 4, 5, 6), whole(1, 6, 1, 2, 3, 4, 5, 6), whole(2, 2, 1, 2, 3, 4), whole(3, 3, 1, 2, 3, 4, 5, 6, 7, 8, 9), whole(0, 0), whole(2, 0), whole(0, 3)} {
		checkAdd(t, a, b)
		checkAdd(t, b, a)
	}
	for _, c := range [][2]qmat.Mat{{whole(0, 3), whole(3, 0)}, {whole(0, 3), whole(0, 2)}, {whole(0, 0), whole(0, 1)}, {whole(0, 0), whole(1, 0)}} {
		checkAdd(t, c[0], c[1])
	}
}

// P13.1: products that are easily reckoned; sides that fit in one order alone.
func TestMul(t *testing.T) {
	a, b := parts(2, 2, 3, 1, 2, 3, 4, 5, 6), parts(3, 3, 2, 1, 0, 0, 1, 1, 1)
	for _, c := range []struct{ a, b, want qmat.Mat }{
		{whole(2, 2, 1, 2, 3, 4), whole(2, 2, 0, 1, 1, 0), whole(2, 2, 2, 1, 4, 3)}, {parts(2, 2, 2, -4, 2, 3, -1), whole(2, 2, 1, 2, 3, 4), whole(2, 2, 1, 0, 0, 1)}, {a, b, parts(6, 2, 2, 4, 5, 10, 11)},
		{b, a, parts(6, 3, 3, 1, 2, 3, 4, 5, 6, 5, 7, 9)}, {rats(1, 3, over(1, 2), over(1, 3), over(1, 6)), rats(3, 1, over(1, 1), over(1, 1), over(-5, 1)), whole(1, 1, 0)}, {parts(4, 3, 1, 4, 5, -6), whole(1, 2, 1, 2), parts(4, 3, 2, 4, 8, 5, 10, -6, -12)},
		{rats(1, 2, over(1, 2), over(4, 0)), rats(2, 1, over(2, 3), over(1, 1)), parts(3, 1, 1, 1)},
	} {
		got, e := qmat.Mul(c.a, c.b)
		expect(t, "Mul", got, e, c.want)
	}
	for _, c := range [][2]qmat.Mat{{a, a}, {b, b}, {whole(1, 2, 1, 2), whole(1, 2, 1, 2)}, {whole(2, 0), whole(1, 0)}, {whole(0, 3), whole(0, 3)}, {whole(2, 2, 1, 2, 3, 4), b}, {whole(3, 1, 1, 1, 1), a}} {
		got, e := qmat.Mul(c[0], c[1])
		expectError(t, "Mul", got, e, api.ErrShape)
	}
}

// P13.1: products by a side of 0: noughts where it is shared, and no numbers where it
// isn't.
func TestMulOfNoSides(t *testing.T) {
	source := rand.New(rand.NewSource(144))
	list := []int{0, 1, 2, 3, 63, most}
	for _, r := range list {
		for _, c := range list {
			got, e := qmat.Mul(qmat.Mat{R: r}, qmat.Mat{C: c})
			expectTable(t, "a shared side of 0", got, e, noughtsOf(r, c))
			got, e = qmat.Mul(qmat.Mat{C: r}, drawnNext(source, r, c))
			expectTable(t, "no rows", got, e, noughtsOf(0, c))
			got, e = qmat.Mul(drawnNext(source, c, r), qmat.Mat{R: r})
			expectTable(t, "no columns", got, e, noughtsOf(c, 0))
		}
	}
}

// P13.1: products by the identity, and by noughts, on both sides.
func TestMulByIdentity(t *testing.T) {
	for _, a := range samples() {
		for _, b := range forms(a) {
			got, e := qmat.Mul(matOf(unitsOf(a.R)), b)
			expect(t, "the identity times a", got, e, a)
			got, e = qmat.Mul(b, matOf(unitsOf(a.C)))
			expect(t, "a times the identity", got, e, a)
		}
		got, e := qmat.Mul(a, written(matOf(noughtsOf(a.C, 5)), 1))
		expectTable(t, "a times noughts", got, e, noughtsOf(a.R, 5))
		got, e = qmat.Mul(written(matOf(noughtsOf(5, a.R)), 2), a)
		expectTable(t, "noughts times a", got, e, noughtsOf(5, a.C))
	}
}

// P13.1: Scale by all factors, and by 0 and 1.
func TestScale(t *testing.T) {
	for _, a := range samples() {
		for _, x := range factors() {
			for _, b := range []qmat.Mat{a, written(a, 1), matOf(tableOf(a))} {
				got, e := qmat.Scale(b, x)
				expectTable(t, "Scale", got, e, timesOf(tableOf(a), numberOf(x)))
			}
		}
	}
	a := parts(2, 2, 2, 1, -2, 0, 4)
	for _, x := range noughts() {
		got, e := qmat.Scale(a, x)
		expect(t, "by 0", got, e, whole(2, 2, 0, 0, 0, 0))
	}
	got, e := qmat.Scale(a, over(-2, 3))
	expect(t, "by -2/3", got, e, parts(3, 2, 2, -1, 2, 0, -4))
	got, e = qmat.Scale(a, over(2, 1))
	expect(t, "by 2", got, e, whole(2, 2, 1, -2, 0, 4))
}

// P13.1: Transpose of all sides.
func TestTranspose(t *testing.T) {
	source := rand.New(rand.NewSource(145))
	for _, a := range append(samples(), drawnNext(source, most, most), drawnNext(source, 5, 9), drawnNext(source, most, 3)) {
		for _, b := range forms(a) {
			got, e := qmat.Transpose(b)
			expectTable(t, "Transpose", got, e, turnedOf(tableOf(a)))
		}
	}
	got, e := qmat.Transpose(parts(7, 2, 3, 1, 2, 3, 4, 5, 6))
	expect(t, "Transpose", got, e, parts(7, 3, 2, 1, 4, 2, 5, 3, 6))
	got, e = qmat.Transpose(whole(0, most))
	expect(t, "Transpose", got, e, whole(most, 0))
}

// P13.1: all pairs of samples, written in several ways.
func TestPairsOfSamples(t *testing.T) {
	list := samples()
	for i, a := range list {
		for k, b := range list {
			checkAdd(t, a, b)
			checkMul(t, a, b)
			if i%3 == k%3 {
				checkAdd(t, written(a, i), written(b, k))
				checkMul(t, written(a, k), written(b, i))
			}
		}
	}
}

// P13.1: drawn matrices of sides that fit.
func TestDrawnPairs(t *testing.T) {
	source := rand.New(rand.NewSource(146))
	for range 400 {
		r, c, n := source.Intn(6), source.Intn(6), source.Intn(6)
		a := drawn(source, r, c, 1+source.Intn(4))
		checkAdd(t, a, drawn(source, r, c, 3))
		checkMul(t, a, drawn(source, c, n, 3))
		checkMul(t, drawnNext(source, r, c), drawnNext(source, c, n))
		x := drawnRat(source, 4)
		got, e := qmat.Scale(a, x)
		expectTable(t, "Scale", got, e, timesOf(tableOf(a), numberOf(x)))
	}
}

// P13.1: matrices of the greatest sides, and numbers of very many words.
func TestGreatPairs(t *testing.T) {
	source := rand.New(rand.NewSource(147))
	a, b := drawnNext(source, most, most), drawnNext(source, most, most)
	checkAdd(t, a, b)
	checkMul(t, a, b)
	checkMul(t, drawn(source, 1, most, 1), drawn(source, most, 2, 1))
	checkMul(t, drawn(source, most, 1, 2), drawn(source, 1, most, 2))
	checkMul(t, drawn(source, 3, 4, 90), drawn(source, 4, 2, 60))
	checkAdd(t, drawn(source, 3, 4, 90), drawn(source, 3, 4, 90))
}

// P13.1: ErrShape of what isn't formed, in each place, whatever the other one is.
func TestUnformedPairs(t *testing.T) {
	for _, a := range unformed() {
		for _, b := range append(samples(), unformed()...) {
			for _, call := range []func(a, b qmat.Mat) (qmat.Mat, api.Errno){qmat.Add, qmat.Mul} {
				got, e := call(a, b)
				expectError(t, "the first", got, e, api.ErrShape)
				got, e = call(b, a)
				expectError(t, "the second", got, e, api.ErrShape)
			}
		}
		for _, x := range factors() {
			got, e := qmat.Scale(a, x)
			expectError(t, "Scale", got, e, api.ErrShape)
		}
		got, e := qmat.Transpose(a)
		expectError(t, "Transpose", got, e, api.ErrShape)
	}
}
