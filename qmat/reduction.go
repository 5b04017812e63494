package qmat

import (
	"slices"

	"quincunx/echelon"
	"quincunx/rat"
	"quincunx/zint"
)

// reduction is the one of a matrix a, with the rows of another one beside a's, by the
// pivots of a's columns.
type reduction struct {
	echelon.Reduction
	// contents tells what each column is to be multiplied by.
	contents []rat.Rat
}

// reductionOf divides a's rows by what their numbers have in common, and b's rows by the
// same. What b's columns have in common then is put away too, so that a's minors are no
// greater than they need to be, whatever b is.
func reductionOf(a, b Mat) *reduction {
	rows, beside := make([][]zint.Int, a.R), Mat{R: b.R, C: b.C}
	for i := range rows {
		own := partOf(a.row(i))
		rows[i] = own.numbers
		for _, x := range b.row(i) {
			divided, _ := rat.Quo(x, own.content)
			beside.A = append(beside.A, divided)
		}
	}
	contents := slices.Repeat([]rat.Rat{rat.Of(zint.Of(1))}, a.C)
	for k := range b.C {
		column := partOf(beside.column(k))
		for i, x := range column.numbers {
			rows[i] = append(rows[i], x)
		}
		contents = append(contents, column.content)
	}
	r := &reduction{echelon.Of(rows), contents}
	r.Reduce(a.C)
	return r
}

// column is the column k of the reduced form, in the rows that have pivots, known from
// the last one on. Times the last pivot's number they are, up to signs, minors.
func (r *reduction) column(k int) []rat.Rat {
	out, known := make([]rat.Rat, len(r.Pivots)), make([]zint.Int, len(r.Pivots))
	content := r.contents[k]
	below := zint.Mul(r.Ahead, content.D)
	for i, row := range slices.Backward(r.Rows[:len(r.Pivots)]) {
		rest := zint.Mul(r.Ahead, row[k])
		for at := i + 1; at < len(known); at++ {
			rest = zint.Sub(rest, zint.Mul(row[r.Pivots[at]], known[at]))
		}
		known[i], _ = zint.Exact(rest, row[r.Pivots[i]])
		out[i] = fraction(zint.Mul(known[i], content.N), below)
	}
	return out
}

// others is the columns, rising, below so many, that are no pivots.
func (r *reduction) others(columns int) []int {
	var list []int
	for k := range columns {
		if !slices.Contains(r.Pivots, k) {
			list = append(list, k)
		}
	}
	return list
}

// isLeft tells whether a row without a pivot has something beside its noughts.
func (r *reduction) isLeft() bool {
	return slices.ContainsFunc(r.Rows[len(r.Pivots):], func(row []zint.Int) bool {
		return slices.ContainsFunc(row, func(x zint.Int) bool { return zint.Sign(x) != 0 })
	})
}
