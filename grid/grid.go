// Package grid is what matrices of all kinds share: which sides they may have, and how
// their numbers are made place by place. It stands beside the layers.
package grid

import "quincunx/api"

// IsSide tells whether a matrix may have as many rows, or columns.
func IsSide(n int) bool {
	return 0 <= n && n <= api.MaxSide
}

// Formed tells whether a matrix may have these sides, and they make just so many places.
func Formed(r, c, places int) bool {
	return IsSide(r) && IsSide(c) && places == r*c
}

// Has tells whether there is a row i and a column k.
func Has(r, c, i, k int) bool {
	return 0 <= i && i < r && 0 <= k && k < c
}

// Make asks for the number of each place, row by row, and keeps what it is told.
func Make[T any](r, c int, number func(i, k int) T) []T {
	out := make([]T, 0, r*c)
	for i := range r {
		for k := range c {
			out = append(out, number(i, k))
		}
	}
	return out
}
