// Package echelon reduces rows of whole numbers without fractions. It stands beside the
// layers, for bareiss and qmat: a row may have more numbers than a matrix has columns.
package echelon

import "quincunx/zint"

// Reduction is rows that are reckoned without fractions. The first of them have the
// pivots that are found so far, one each. In a row without one each number is, up to
// its sign, a minor of what was there at first: of the rows with pivots and its own
// one, and of the pivots' columns and its own one. So the pivot ahead divides what a
// step makes, and numbers don't grow beyond minors.
type Reduction struct {
	Rows   [][]zint.Int
	Pivots []int
	// Ahead is the last pivot's number. Ahead of all pivots it is 1, the minor of no
	// rows.
	Ahead zint.Int
	// IsOdd tells whether rows have changed places an odd number of times.
	IsOdd bool
}

// Of is the beginning, with rows of one length. They are kept, but their numbers are
// left as they are.
func Of(rows [][]zint.Int) Reduction {
	return Reduction{Rows: rows, Ahead: zint.Of(1)}
}

// Reduce finds the pivots of the first columns, and makes noughts below each.
func (r *Reduction) Reduce(columns int) {
	for k := range columns {
		if r.bringUp(k) {
			r.clearBelow(k)
		}
	}
}

// bringUp brings the first row without a pivot, whose number in the column k isn't 0,
// ahead of the others without one; false, if there is none.
func (r *Reduction) bringUp(k int) bool {
	next := len(r.Pivots)
	for i := next; i < len(r.Rows); i++ {
		if zint.Sign(r.Rows[i][k]) != 0 {
			r.Rows[next], r.Rows[i] = r.Rows[i], r.Rows[next]
			r.IsOdd = r.IsOdd != (i != next)
			return true
		}
	}
	return false
}

// clearBelow makes the column k the next row's pivot, and its numbers below noughts.
func (r *Reduction) clearBelow(k int) {
	next := len(r.Pivots)
	for i := next + 1; i < len(r.Rows); i++ {
		r.Rows[i] = r.step(r.Rows[next], r.Rows[i], k)
	}
	r.Pivots, r.Ahead = append(r.Pivots, k), r.Rows[next][k]
}

// step is the lower row as often as the number in the upper one's column k says, less
// the upper one as often as that in the lower one's, by the pivot ahead. Up to the
// column k nothing but noughts comes of it.
func (r *Reduction) step(upper, lower []zint.Int, k int) []zint.Int {
	out := make([]zint.Int, len(lower))
	for at := k + 1; at < len(lower); at++ {
		cross := zint.Sub(zint.Mul(upper[k], lower[at]), zint.Mul(lower[k], upper[at]))
		out[at], _ = zint.Exact(cross, r.Ahead)
	}
	return out
}
