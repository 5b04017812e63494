package zmat_test

import (
	"math/rand"
	"testing"

	"quincunx/zint"
	"quincunx/zmat"
)

// checkProducts holds that products go together, and with sums: c has as many rows as b
// has columns, and d the sides of b.
func checkProducts(t *testing.T, a, b, c, d zmat.Mat, x zint.Int) {
	t.Helper()
	ok := must(t)
	left := ok(zmat.Mul(ok(zmat.Mul(a, b)), c))
	expect(t, "(a b) c = a (b c)", left, 0, ok(zmat.Mul(a, ok(zmat.Mul(b, c)))))
	sum, rest := ok(zmat.Add(b, d)), ok(zmat.Sub(b, d))
	first, second := ok(zmat.Mul(a, b)), ok(zmat.Mul(a, d))
	expect(t, "a (b + d) = a b + a d", ok(zmat.Mul(a, sum)), 0, ok(zmat.Add(first, second)))
	expect(t, "a (b - d) = a b - a d", ok(zmat.Mul(a, rest)), 0, ok(zmat.Sub(first, second)))
	before, behind := ok(zmat.Mul(b, c)), ok(zmat.Mul(d, c))
	expect(t, "(b + d) c = b c + d c", ok(zmat.Mul(sum, c)), 0, ok(zmat.Add(before, behind)))
	expect(t, "(x a) b = x (a b)", ok(zmat.Mul(ok(zmat.Scale(a, x)), b)), 0, ok(zmat.Scale(first, x)))
	expect(t, "a (x b) = x (a b)", ok(zmat.Mul(a, ok(zmat.Scale(b, x)))), 0, ok(zmat.Scale(first, x)))
	turned := ok(zmat.Mul(ok(zmat.Transpose(b)), ok(zmat.Transpose(a))))
	expect(t, "a b, turned", ok(zmat.Transpose(first)), 0, turned)
	expect(t, "a turned twice", ok(zmat.Transpose(ok(zmat.Transpose(a)))), 0, a)
}

// checkSumLaws holds what makes a group of matrices of the same sides.
func checkSumLaws(t *testing.T, a, b, c zmat.Mat) {
	t.Helper()
	ok := must(t)
	sum := ok(zmat.Add(a, b))
	expect(t, "a + b = b + a", sum, 0, ok(zmat.Add(b, a)))
	expect(t, "(a + b) + c = a + (b + c)", ok(zmat.Add(sum, c)), 0, ok(zmat.Add(a, ok(zmat.Add(b, c)))))
	expect(t, "(a + b) - b = a", ok(zmat.Sub(sum, b)), 0, a)
	expect(t, "a + 0 = a", ok(zmat.Add(a, ok(zmat.New(a.R, a.C)))), 0, a)
	expect(t, "a - b = a + -b", ok(zmat.Sub(a, b)), 0, ok(zmat.Add(a, ok(zmat.Scale(b, zint.Of(-1))))))
	if !zmat.Zero(ok(zmat.Sub(a, a))) {
		t.Fatal("a - a = 0", a)
	}
}

// checkJoinLaws holds how what is joined goes with products, and comes apart: b has a's
// columns, c as many rows as these.
func checkJoinLaws(t *testing.T, a, b, c zmat.Mat) {
	t.Helper()
	ok := must(t)
	both := ok(zmat.Stack(a, b))
	expect(t, "the rows of a", ok(zmat.Rows(both, 0, a.R)), 0, a)
	expect(t, "the rows of b", ok(zmat.Rows(both, a.R, a.R+b.R)), 0, b)
	product := ok(zmat.Stack(ok(zmat.Mul(a, c)), ok(zmat.Mul(b, c))))
	expect(t, "rows times c", ok(zmat.Mul(both, c)), 0, product)
	beside := ok(zmat.Beside(ok(zmat.Transpose(a)), ok(zmat.Transpose(b))))
	expect(t, "rows are columns, turned", ok(zmat.Transpose(both)), 0, beside)
	for n := range a.R + 1 {
		expect(t, "a of two pieces", ok(zmat.Stack(ok(zmat.Rows(a, 0, n)), ok(zmat.Rows(a, n, a.R)))), 0, a)
	}
}

// checkTurnLaws holds that a row that is turned is the product with the identity's,
// turned so.
func checkTurnLaws(t *testing.T, a zmat.Mat, i, k int, x zint.Int) {
	t.Helper()
	ok := must(t)
	one := ok(zmat.Identity(a.R))
	swapped := ok(zmat.SwapRows(a, i, k))
	expect(t, "SwapRows", swapped, 0, ok(zmat.Mul(ok(zmat.SwapRows(one, i, k)), a)))
	expect(t, "SwapRows twice", ok(zmat.SwapRows(swapped, i, k)), 0, a)
	expect(t, "SwapRows in the other order", swapped, 0, ok(zmat.SwapRows(a, k, i)))
	negated := ok(zmat.NegRow(a, i))
	expect(t, "NegRow", negated, 0, ok(zmat.Mul(ok(zmat.NegRow(one, i)), a)))
	expect(t, "NegRow twice", ok(zmat.NegRow(negated, i)), 0, a)
	if i == k {
		return
	}
	added := ok(zmat.AddRow(a, i, k, x))
	expect(t, "AddRow", added, 0, ok(zmat.Mul(ok(zmat.AddRow(one, i, k, x)), a)))
	expect(t, "AddRow, and back", ok(zmat.AddRow(added, i, k, zint.Neg(x))), 0, a)
}

// P11.4: drawn matrices of sides that fit, 0 among them.
func TestLaws(t *testing.T) {
	source := rand.New(rand.NewSource(115))
	for range 400 {
		r, c, n, m := source.Intn(6), source.Intn(6), source.Intn(6), source.Intn(6)
		a, b := drawn(source, r, c, 3), drawn(source, c, n, 3)
		checkProducts(t, a, b, drawn(source, n, m, 3), drawn(source, c, n, 2), drawnInt(source, 2))
		checkSumLaws(t, a, drawn(source, r, c, 3), drawn(source, r, c, 2))
		checkJoinLaws(t, a, drawn(source, m, c, 2), b)
		if r > 0 {
			checkTurnLaws(t, a, source.Intn(r), source.Intn(r), drawnInt(source, 2))
		}
	}
}

// P11.4: all samples, by rows at their ends.
func TestLawsOfSamples(t *testing.T) {
	source := rand.New(rand.NewSource(116))
	for n, a := range samples() {
		b, d := drawn(source, a.C, 3, 2), drawn(source, a.C, 3, 2)
		x := factors()[n%len(factors())]
		checkProducts(t, a, b, drawn(source, 3, 2, 2), d, x)
		checkSumLaws(t, a, drawn(source, a.R, a.C, 2), drawn(source, a.R, a.C, 2))
		if a.R <= 60 {
			checkJoinLaws(t, a, drawn(source, 4, a.C, 2), b)
		}
		if a.R > 0 {
			checkTurnLaws(t, a, 0, a.R-1, x)
			checkTurnLaws(t, a, a.R/2, 0, x)
			checkTurnLaws(t, a, a.R-1, a.R-1, x)
		}
	}
}

// P11.4: the greatest sides.
func TestLawsOfGreatSides(t *testing.T) {
	source := rand.New(rand.NewSource(117))
	a, b := drawn(source, most, most, 1), drawn(source, most, most, 1)
	checkProducts(t, a, b, drawn(source, most, 2, 1), drawn(source, most, most, 1), small(-7))
	checkTurnLaws(t, a, 0, most-1, small(5))
	checkJoinLaws(t, drawn(source, 40, most, 1), drawn(source, most-40, most, 1), b)
}
