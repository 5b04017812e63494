package hnf

import (
	"slices"

	"quincunx/zint"
)

// triangle is rows by their pivots: at k stands the row whose first number that isn't 0
// is the one at k, or none. The rows that stand in it are its own: they are changed in
// their places.
type triangle [][]zint.Int

// triangleOf is the triangle of the rows' sums of multiples. The rows, of so many
// numbers each, are kept. Ahead of each row the triangle is Hermite's form of those that
// stand in it: there is one of them, so that its numbers are bounded by minors, and
// don't grow with each turn.
func triangleOf(list [][]zint.Int, width int) triangle {
	t := make(triangle, width)
	for _, row := range list {
		t.put(row)
		t.settle()
	}
	return t
}

// put takes up one row more. Where a row of the triangle begins at the same place, both
// make one with the greatest common divisor, which stands there from now on, and one
// that begins later: that one goes on, till it finds room, or nothing is left of it.
func (t triangle) put(row []zint.Int) {
	for t.leaves(row) {
		k := lead(row)
		if t[k] == nil {
			t[k] = above(row, k)
			return
		}
		join(t[k], row, k)
	}
}

// leaves reduces a row, and tells whether something is left of it: nothing is left of
// just those that are sums of multiples of the triangle's.
func (t triangle) leaves(row []zint.Int) bool {
	t.reduce(row, 0)
	return lead(row) < len(row)
}

// reduce brings the row's numbers from the place from on, where there are pivots, from 0
// on, and below those.
func (t triangle) reduce(row []zint.Int, from int) {
	for k := from; k < len(row); k++ {
		if t[k] != nil {
			takeOut(row, t[k], k)
		}
	}
}

// settle reduces each row by those behind it, from the last one on.
func (t triangle) settle() {
	for k, row := range slices.Backward(t) {
		t.reduce(row, k+1)
	}
}

// rows is the triangle's rows in their order.
func (t triangle) rows() [][]zint.Int {
	var list [][]zint.Int
	for _, row := range t {
		if row != nil {
			list = append(list, row)
		}
	}
	return list
}

// lead is where the row's first number stands that isn't 0; the row's length, if there
// is none.
func lead(row []zint.Int) int {
	k := slices.IndexFunc(row, func(x zint.Int) bool { return zint.Sign(x) != 0 })
	if k < 0 {
		return len(row)
	}
	return k
}

// above is the row, or its negative: the one whose number at k is above 0.
func above(row []zint.Int, k int) []zint.Int {
	if row[k].Neg {
		for at, x := range row {
			row[at] = zint.Neg(x)
		}
	}
	return row
}

// takeOut takes the other row, whose first number is the one at k, and above 0, out of
// the row as often as leaves its number there from 0 on, and below the other one's. It
// answers how often.
func takeOut(row, other []zint.Int, k int) zint.Int {
	times, _, _ := zint.Floor(row[k], other[k])
	if zint.Sign(times) == 0 {
		return times
	}
	for at := k; at < len(row); at++ {
		if zint.Sign(other[at]) != 0 {
			row[at] = zint.Sub(row[at], zint.Mul(times, other[at]))
		}
	}
	return times
}

// join brings the greatest common divisor of both rows' numbers at k to the upper one,
// and 0 to the lower one. What is reckoned with has the determinant 1: the cofactors, and
// what is left of both numbers when they are divided by the divisor.
func join(upper, lower []zint.Int, k int) {
	divisor, x, y := zint.Xgcd(upper[k], lower[k])
	u, _ := zint.Exact(upper[k], divisor)
	l, _ := zint.Exact(lower[k], divisor)
	for at := k; at < len(upper); at++ {
		one, other := upper[at], lower[at]
		upper[at] = zint.Add(zint.Mul(x, one), zint.Mul(y, other))
		lower[at] = zint.Sub(zint.Mul(u, other), zint.Mul(l, one))
	}
}
