package bareiss

import (
	"quincunx/api"
	"quincunx/echelon"
	"quincunx/rows"
	"quincunx/zint"
	"quincunx/zmat"
)

// Adjugate is the matrix of the minors of one row less, whose product with a is the
// determinant times the identity. All of them are 0, where the rank is less than their
// rows.
func Adjugate(a zmat.Mat) (zmat.Mat, api.Errno) {
	if !isSquare(a) {
		return zmat.Mat{}, api.ErrShape
	}
	r := &reduction{echelon.Of(rows.BesideIdentity(a))}
	r.Reduce(a.C)
	if a.R == 0 || len(r.Pivots) < a.R-1 {
		return zmat.New(a.R, a.C)
	}
	return rows.Join(r.adjugate(), 0, a.C), api.OK
}

// adjugate is the adjugate's rows, where at most one column has no pivot. That column,
// or the last one, is left over by the pivots of all rows but the last; beside that row
// stand, up to one sign, the minors without the column, which are one row of the
// adjugate. The others come of the rows above, from the last one on.
func (r *reduction) adjugate() [][]zint.Int {
	last, left, det := len(r.Rows)-1, r.leftOver(), r.det()
	out := make([][]zint.Int, len(r.Rows))
	for k := range r.Rows {
		minor := turned(r.beside(last, k), r.IsOdd != ((last-left)%2 != 0))
		out[left] = append(out[left], minor)
	}
	for i := last - 1; i >= 0; i-- {
		pivot := r.Pivots[i]
		for k := range r.Rows {
			number, _ := zint.Exact(r.atPivot(i, k, det, out), r.Rows[i][pivot])
			out[pivot] = append(out[pivot], number)
		}
	}
	return out
}

// atPivot is the row i's pivot times the adjugate's number at the pivot's row and the
// column k, where the rows behind that one are known. For the row times the adjugate is
// the determinant times what stands beside the row.
func (r *reduction) atPivot(i, k int, det zint.Int, known [][]zint.Int) zint.Int {
	rest := zint.Mul(det, r.beside(i, k))
	for at := r.Pivots[i] + 1; at < len(r.Rows); at++ {
		rest = zint.Sub(rest, zint.Mul(r.Rows[i][at], known[at][k]))
	}
	return rest
}

// leftOver is the first column that isn't a pivot of the rows ahead of the last one.
func (r *reduction) leftOver() int {
	for i, k := range r.Pivots {
		if i != k {
			return i
		}
	}
	return len(r.Rows) - 1
}

// beside is the number of the row i that has come of the identity's column k.
func (r *reduction) beside(i, k int) zint.Int {
	return r.Rows[i][len(r.Rows)+k]
}
