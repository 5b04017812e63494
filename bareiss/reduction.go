package bareiss

import (
	"quincunx/echelon"
	"quincunx/rows"
	"quincunx/zint"
	"quincunx/zmat"
)

// reduction is a matrix' rows, maybe with others beside them, that are reckoned without
// fractions: what is divided is divided by the pivot ahead.
type reduction struct {
	echelon.Reduction
}

// reductionOf is the beginning, in memory of its own.
func reductionOf(a zmat.Mat) *reduction {
	return &reduction{echelon.Of(rows.Of(a))}
}

// det is the determinant, where there are as many columns as rows.
func (r *reduction) det() zint.Int {
	if len(r.Pivots) < len(r.Rows) {
		return zint.Int{}
	}
	return turned(r.Ahead, r.IsOdd)
}

// turned is x, or, if isBelow is true, its negative.
func turned(x zint.Int, isBelow bool) zint.Int {
	return zint.From(x.A, x.Neg != isBelow)
}
