// Package rows takes matrices of whole numbers apart into rows that can be turned in
// their places, and joins such rows again. It stands beside the layers: a row may have
// more numbers than a matrix has columns.
package rows

import (
	"quincunx/zint"
	"quincunx/zmat"
)

// Of is the rows of a formed matrix, normal and in memory of their own. What is put
// behind one of them doesn't run into the next one.
func Of(a zmat.Mat) [][]zint.Int {
	own, _ := zmat.Norm(a)
	out := make([][]zint.Int, a.R)
	for i := range out {
		out[i] = own.A[i*a.C : (i+1)*a.C : (i+1)*a.C]
	}
	return out
}

// BesideIdentity is the rows of a formed matrix, with the identity's ones behind them.
func BesideIdentity(a zmat.Mat) [][]zint.Int {
	one, _ := zmat.Identity(a.R)
	out := Of(a)
	for i, units := range Of(one) {
		out[i] = append(out[i], units...)
	}
	return out
}

// Join is the matrix that has of each row the numbers from from on, up to ahead of to.
// They are kept.
func Join(list [][]zint.Int, from, to int) zmat.Mat {
	out := zmat.Mat{R: len(list), C: to - from, A: make([]zint.Int, 0, len(list)*(to-from))}
	for _, row := range list {
		out.A = append(out.A, row[from:to]...)
	}
	return out
}
