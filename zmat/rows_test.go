package zmat_test

import (
	"math"
	"math/big"
	"math/rand"
	"slices"
	"testing"

	"quincunx/api"
	"quincunx/zint"
	"quincunx/zmat"
)

// rowOf is the row i, as a list of its own.
func rowOf(a table, i int) []*big.Int {
	return slices.Clone(a.at[i*a.c : (i+1)*a.c])
}

// swappedOf is a whose rows i and k have changed places.
func swappedOf(a table, i, k int) table {
	out := table{r: a.r, c: a.c, at: slices.Clone(a.at)}
	copy(out.at[i*a.c:], rowOf(a, k))
	copy(out.at[k*a.c:], rowOf(a, i))
	return out
}

// addedOf is a with x times the row k put to the row i.
func addedOf(a table, i, k int, x *big.Int) table {
	out := table{r: a.r, c: a.c, at: slices.Clone(a.at)}
	for n, y := range rowOf(a, k) {
		out.at[i*a.c+n] = new(big.Int).Add(a.get(i, n), new(big.Int).Mul(x, y))
	}
	return out
}

// negatedOf is a with the row i's negative in its place.
func negatedOf(a table, i int) table {
	out := table{r: a.r, c: a.c, at: slices.Clone(a.at)}
	for n, x := range rowOf(a, i) {
		out.at[i*a.c+n] = new(big.Int).Neg(x)
	}
	return out
}

// cutOf is the rows from from on, up to ahead of to.
func cutOf(a table, from, to int) table {
	out := table{r: to - from, c: a.c}
	for i := from; i < to; i++ {
		out.at = append(out.at, rowOf(a, i)...)
	}
	return out
}

// checkTurns holds all turns of a by the rows i and k, that are there, and x.
func checkTurns(t *testing.T, a zmat.Mat, i, k int, x zint.Int) {
	t.Helper()
	own := tableOf(a)
	got, e := zmat.SwapRows(a, i, k)
	expectTable(t, "SwapRows", got, e, swappedOf(own, i, k))
	got, e = zmat.NegRow(a, i)
	expectTable(t, "NegRow", got, e, negatedOf(own, i))
	got, e = zmat.AddRow(a, i, k, x)
	if i == k {
		expectError(t, "AddRow of one row twice", got, e, api.ErrArg)
		return
	}
	expectTable(t, "AddRow", got, e, addedOf(own, i, k, valueOf(x)))
}

// P11.3: rows that are easily turned.
func TestTurnedRows(t *testing.T) {
	a := mat(3, 2, 1, 2, 3, 4, 5, 6)
	got, e := zmat.SwapRows(a, 0, 2)
	expect(t, "SwapRows", got, e, mat(3, 2, 5, 6, 3, 4, 1, 2))
	got, e = zmat.SwapRows(a, 2, 1)
	expect(t, "SwapRows", got, e, mat(3, 2, 1, 2, 5, 6, 3, 4))
	got, e = zmat.SwapRows(a, 1, 1)
	expect(t, "SwapRows of a row with itself", got, e, a)
	got, e = zmat.AddRow(a, 0, 1, small(10))
	expect(t, "AddRow", got, e, mat(3, 2, 31, 42, 3, 4, 5, 6))
	got, e = zmat.AddRow(a, 2, 0, small(-5))
	expect(t, "AddRow", got, e, mat(3, 2, 1, 2, 3, 4, 0, -4))
	got, e = zmat.AddRow(a, 1, 2, long(true, 0, 0))
	expect(t, "AddRow by 0", got, e, a)
	got, e = zmat.AddRow(a, 1, 0, long(false, 0, 1))
	expect(t, "AddRow by 2^64", got, e, ints(3, 2, small(1), small(2), long(false, 3, 1), long(false, 4, 2), small(5), small(6)))
	got, e = zmat.NegRow(a, 1)
	expect(t, "NegRow", got, e, mat(3, 2, 1, 2, -3, -4, 5, 6))
	got, e = zmat.NegRow(mat(2, 2, math.MinInt64, 0, 1, 2), 0)
	expect(t, "NegRow", got, e, ints(2, 2, long(false, 1<<63), small(0), small(1), small(2)))
	got, e = zmat.NegRow(ints(2, 4, noughtInts()...), 0)
	expectTable(t, "NegRow of noughts", got, e, noughtsOf(2, 4))
	got, e = zmat.NegRow(zmat.Mat{R: 2}, 1)
	expect(t, "NegRow of no columns", got, e, mat(2, 0))
	got, e = zmat.SwapRows(zmat.Mat{R: 2}, 1, 0)
	expect(t, "SwapRows of no columns", got, e, mat(2, 0))
	got, e = zmat.AddRow(zmat.Mat{R: 2}, 1, 0, small(1))
	expect(t, "AddRow of no columns", got, e, mat(2, 0))
}

// P11.3: all rows of all samples, written in several ways.
func TestTurnedRowsOfSamples(t *testing.T) {
	list := factors()
	for n, a := range samples() {
		for i := range a.R {
			for k := range a.R {
				if a.R < 9 || i < 3 || k%31 == 1 || i == k {
					checkTurns(t, forms(a)[(n+i+k)%10], i, k, list[(n+i+2*k)%len(list)])
				}
			}
		}
	}
}

// P11.3: drawn matrices, the greatest one among them.
func TestTurnedRowsOfDrawn(t *testing.T) {
	source := rand.New(rand.NewSource(114))
	for range 600 {
		a := drawn(source, 1+source.Intn(7), source.Intn(7), 3)
		checkTurns(t, a, source.Intn(a.R), source.Intn(a.R), drawnInt(source, 4))
	}
	a := drawn(source, most, most, 2)
	for _, c := range [][2]int{{0, most - 1}, {most - 1, 0}, {31, 32}, {0, 0}, {most - 1, most - 1}} {
		checkTurns(t, a, c[0], c[1], drawnInt(source, 3))
	}
}

// P11.3: AddRow by each factor, with 0 in all ways.
func TestAddRowByFactors(t *testing.T) {
	for _, a := range []zmat.Mat{mat(2, 3, 1, 2, 3, 4, 5, 6), ints(2, 4, noughtInts()...), ints(2, 2, long(false, 0, 1), long(true, top, top), long(true, 5, 0), long(false, 0, 0, 1))} {
		for _, x := range factors() {
			checkTurns(t, a, 0, 1, x)
			checkTurns(t, a, 1, 0, x)
			checkTurns(t, a, 1, 1, x)
		}
	}
}

// P11.3: ErrArg of rows that aren't there, below 0 and just beyond, in each place.
func TestWrongRows(t *testing.T) {
	for _, a := range append(samples(), counting(most, most)) {
		for _, i := range outside(a.R) {
			if i >= 0 && i < a.R {
				continue
			}
			got, e := zmat.NegRow(a, i)
			expectError(t, "NegRow", got, e, api.ErrArg)
			for _, k := range append(outside(a.R), 0, a.R-1) {
				got, e = zmat.SwapRows(a, i, k)
				expectError(t, "SwapRows", got, e, api.ErrArg)
				got, e = zmat.SwapRows(a, k, i)
				expectError(t, "SwapRows", got, e, api.ErrArg)
				got, e = zmat.AddRow(a, i, k, small(1))
				expectError(t, "AddRow", got, e, api.ErrArg)
				got, e = zmat.AddRow(a, k, i, long(true, 0))
				expectError(t, "AddRow", got, e, api.ErrArg)
			}
		}
	}
}

// checkRows holds Rows, of what can be and what can't.
func checkRows(t *testing.T, a zmat.Mat, from, to int) {
	t.Helper()
	got, e := zmat.Rows(a, from, to)
	if from < 0 || to < from || to > a.R {
		expectError(t, "Rows", got, e, api.ErrArg)
		return
	}
	expectTable(t, "Rows", got, e, cutOf(tableOf(a), from, to))
}

// P11.3: Rows of none, of all, and from each row on, up to each row and beyond.
func TestRows(t *testing.T) {
	for n, a := range append(samples(), counting(5, 3), counting(3, 0)) {
		list := []int{0, 1, 2, 3, a.R - 1, a.R, a.R + 1, -1, -2, most, most + 1, math.MinInt, math.MaxInt}
		for _, from := range list {
			for _, to := range list {
				checkRows(t, forms(a)[n%10], from, to)
			}
		}
	}
	a := mat(3, 2, 1, 2, 3, 4, 5, 6)
	for _, c := range []struct {
		from, to int
		want     zmat.Mat
	}{
		{0, 0, mat(0, 2)}, {1, 1, mat(0, 2)}, {3, 3, mat(0, 2)}, {0, 3, a}, {0, 1, mat(1, 2, 1, 2)}, {1, 2, mat(1, 2, 3, 4)}, {2, 3, mat(1, 2, 5, 6)}, {1, 3, mat(2, 2, 3, 4, 5, 6)}, {0, 2, mat(2, 2, 1, 2, 3, 4)},
	} {
		got, e := zmat.Rows(a, c.from, c.to)
		expect(t, "Rows", got, e, c.want)
	}
	for _, c := range [][2]int{{2, 1}, {3, 0}, {-1, 2}, {0, 4}, {4, 4}, {-1, -1}, {1, 0}, {3, 4}, {0, -1}, {4, 3}, {math.MinInt, math.MaxInt}, {math.MaxInt, math.MinInt}} {
		got, e := zmat.Rows(a, c[0], c[1])
		expectError(t, "Rows", got, e, api.ErrArg)
	}
}

// P11.3: ErrShape of what isn't formed, ahead of ErrArg.
func TestRowsOfUnformed(t *testing.T) {
	list := []int{0, 1, 2, -1, most, most + 1, math.MinInt, math.MaxInt}
	for _, a := range unformed() {
		for _, i := range list {
			got, e := zmat.NegRow(a, i)
			expectError(t, "NegRow", got, e, api.ErrShape)
			for _, k := range list {
				got, e = zmat.SwapRows(a, i, k)
				expectError(t, "SwapRows", got, e, api.ErrShape)
				got, e = zmat.AddRow(a, i, k, small(2))
				expectError(t, "AddRow", got, e, api.ErrShape)
				got, e = zmat.Rows(a, i, k)
				expectError(t, "Rows", got, e, api.ErrShape)
			}
		}
	}
}
