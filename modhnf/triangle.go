package modhnf

import (
	"slices"

	"quincunx/api"
	"quincunx/modn"
	"quincunx/rows"
	"quincunx/zint"
	"quincunx/zmat"
)

// triangle is a row for each column, whose first number that isn't 0 stands there, and
// is above 0. The rows of the identity times the multiple are sums of multiples of its
// rows, so that each number behind a row's first one may be held by its rest.
type triangle struct {
	rows     [][]zint.Int
	multiple zint.Int
}

// triangleOf is the triangle of the rows' sums of multiples: what stands in it at first
// is among them.
func triangleOf(a zmat.Mat) (triangle, api.Errno) {
	multiple, e := Multiple(a)
	if e != api.OK {
		return triangle{}, e
	}
	t := diagonal(multiple, a.C)
	for _, row := range rows.Of(a) {
		t.put(row)
	}
	return t, api.OK
}

// diagonal is the triangle of so many columns that has nothing but the multiple.
func diagonal(multiple zint.Int, columns int) triangle {
	one, _ := zmat.Identity(columns)
	scaled, _ := zmat.Scale(one, multiple)
	return triangle{rows: rows.Of(scaled), multiple: multiple}
}

// put takes up one row more: at each column what is left of it there goes into the
// triangle's row, till nothing is left.
func (t triangle) put(row []zint.Int) {
	for k, x := range row {
		row[k] = t.rest(x)
	}
	for k, own := range t.rows {
		t.takeOut(row, k)
		if zint.Sign(row[k]) != 0 {
			t.join(own, row, k)
		}
	}
}

// settle brings the numbers above each pivot below it, in the last row first: so what is
// taken out of a row is settled, and has noughts wherever a pivot is 1.
func (t triangle) settle() {
	for i, row := range slices.Backward(t.rows) {
		for k := i + 1; k < len(row); k++ {
			t.takeOut(row, k)
		}
	}
}

// takeOut takes the triangle's row of the column k out of another one as often as leaves
// its number there from 0 on, and below the pivot.
func (t triangle) takeOut(row []zint.Int, k int) {
	own := t.rows[k]
	times, left, _ := zint.Floor(row[k], own[k])
	if zint.Sign(times) == 0 {
		return
	}
	row[k] = left
	for at := k + 1; at < len(row); at++ {
		if zint.Sign(own[at]) != 0 {
			row[at] = t.rest(zint.Sub(row[at], zint.Mul(times, own[at])))
		}
	}
}

// join makes the greatest common divisor of both rows' numbers at k the triangle's one,
// and the row's 0. The determinant of what both are turned by is 1.
func (t triangle) join(own, row []zint.Int, k int) {
	divisor, x, y := zint.Xgcd(own[k], row[k])
	u, _ := zint.Exact(own[k], divisor)
	v, _ := zint.Exact(row[k], divisor)
	own[k], row[k] = divisor, zint.Int{}
	for at := k + 1; at < len(row); at++ {
		one, other := own[at], row[at]
		own[at] = t.rest(zint.Add(zint.Mul(x, one), zint.Mul(y, other)))
		row[at] = t.rest(zint.Sub(zint.Mul(u, other), zint.Mul(v, one)))
	}
}

// rest is a number's rest by the multiple.
func (t triangle) rest(x zint.Int) zint.Int {
	out, _ := modn.Mod(x, t.multiple)
	return out
}
