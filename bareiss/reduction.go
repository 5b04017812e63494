package bareiss

import (
	"quincunx/zint"
	"quincunx/zmat"
)

// reduction is rows that are reckoned without fractions. The first of them have the
// pivots that are found so far, one each. In a row without one each number is, up to
// its sign, a minor of what was there at first: of the rows with pivots and its own
// one, and of the pivots' columns and its own one. So the pivot ahead divides what a
// step makes, and numbers don't grow beyond minors.
type reduction struct {
	rows   [][]zint.Int
	pivots []int
	ahead  zint.Int
	// isOdd tells whether rows have changed places an odd number of times.
	isOdd bool
}

// reductionOf is the beginning, in memory of its own. Ahead of all pivots stands 1, the
// minor of no rows.
func reductionOf(a zmat.Mat) *reduction {
	own, _ := zmat.Norm(a)
	r := &reduction{rows: make([][]zint.Int, a.R), ahead: zint.Of(1)}
	for i := range r.rows {
		r.rows[i] = own.A[i*a.C : (i+1)*a.C : (i+1)*a.C]
	}
	return r
}

// reduce finds the pivots of the first columns, and makes noughts below each.
func (r *reduction) reduce(columns int) {
	for k := range columns {
		if r.bringUp(k) {
			r.clearBelow(k)
		}
	}
}

// bringUp brings the first row without a pivot, whose number in the column k isn't 0,
// ahead of the others without one; false, if there is none.
func (r *reduction) bringUp(k int) bool {
	next := len(r.pivots)
	for i := next; i < len(r.rows); i++ {
		if zint.Sign(r.rows[i][k]) != 0 {
			r.rows[next], r.rows[i] = r.rows[i], r.rows[next]
			r.isOdd = r.isOdd != (i != next)
			return true
		}
	}
	return false
}

// clearBelow makes the column k the next row's pivot, and its numbers below noughts.
func (r *reduction) clearBelow(k int) {
	next := len(r.pivots)
	for i := next + 1; i < len(r.rows); i++ {
		r.rows[i] = r.step(r.rows[next], r.rows[i], k)
	}
	r.pivots, r.ahead = append(r.pivots, k), r.rows[next][k]
}

// step is the lower row as often as the number in the upper one's column k says, less
// the upper one as often as that in the lower one's, by the pivot ahead.
func (r *reduction) step(upper, lower []zint.Int, k int) []zint.Int {
	out := make([]zint.Int, len(lower))
	for at, x := range lower {
		cross := zint.Sub(zint.Mul(upper[k], x), zint.Mul(lower[k], upper[at]))
		out[at], _ = zint.Exact(cross, r.ahead)
	}
	return out
}

// det is the determinant, where there are as many columns as rows.
func (r *reduction) det() zint.Int {
	if len(r.pivots) < len(r.rows) {
		return zint.Int{}
	}
	return turned(r.ahead, r.isOdd)
}

// turned is x, or, if isBelow is true, its negative.
func turned(x zint.Int, isBelow bool) zint.Int {
	return zint.From(x.A, x.Neg != isBelow)
}
