package zmat

import (
	"quincunx/api"
	"quincunx/grid"
	"quincunx/zint"
)

// pair is two matrices, of which the number of each place is made.
type pair struct {
	a, b Mat
}

// isFormed tells whether both are.
func (p pair) isFormed() bool {
	return Formed(p.a) && Formed(p.b)
}

// alike asks for each number, if both have the same sides.
func (p pair) alike(number func(i, k int) zint.Int) (Mat, api.Errno) {
	if !p.isFormed() || !sameSides(p.a, p.b) {
		return Mat{}, api.ErrShape
	}
	return form(p.a.R, p.a.C, number), api.OK
}

// Add is the sum.
func Add(a, b Mat) (Mat, api.Errno) {
	both := pair{a, b}
	return both.alike(both.sum)
}

func (p pair) sum(i, k int) zint.Int {
	return zint.Add(p.a.place(i, k), p.b.place(i, k))
}

// Sub is the difference.
func Sub(a, b Mat) (Mat, api.Errno) {
	both := pair{a, b}
	return both.alike(both.difference)
}

func (p pair) difference(i, k int) zint.Int {
	return zint.Sub(p.a.place(i, k), p.b.place(i, k))
}

// Scale is c times a.
func Scale(a Mat, c zint.Int) (Mat, api.Errno) {
	if !Formed(a) {
		return Mat{}, api.ErrShape
	}
	return form(a.R, a.C, func(i, k int) zint.Int { return zint.Mul(c, a.place(i, k)) }), api.OK
}

// Mul is the product.
func Mul(a, b Mat) (Mat, api.Errno) {
	both := pair{a, b}
	if !both.isFormed() || a.C != b.R {
		return Mat{}, api.ErrShape
	}
	return form(a.R, b.C, both.product), api.OK
}

// product sums up the products of the first one's row i and the second one's column k.
// Noughts are left out, as many matrices that turn rows have hardly anything else.
func (p pair) product(i, k int) zint.Int {
	sum := zint.Int{}
	for at := range p.a.C {
		x, y := p.a.place(i, at), p.b.place(at, k)
		if zint.Sign(x) != 0 && zint.Sign(y) != 0 {
			sum = zint.Add(sum, zint.Mul(x, y))
		}
	}
	return sum
}

// Transpose is a with its rows made columns.
func Transpose(a Mat) (Mat, api.Errno) {
	if !Formed(a) {
		return Mat{}, api.ErrShape
	}
	return form(a.C, a.R, func(i, k int) zint.Int { return a.number(k, i) }), api.OK
}

// Stack is a's rows, then b's.
func Stack(a, b Mat) (Mat, api.Errno) {
	both := pair{a, b}
	switch {
	case !both.isFormed() || a.C != b.C:
		return Mat{}, api.ErrShape
	case !grid.IsSide(a.R + b.R):
		return Mat{}, api.ErrArg
	}
	return form(a.R+b.R, a.C, both.stacked), api.OK
}

func (p pair) stacked(i, k int) zint.Int {
	if i < p.a.R {
		return p.a.number(i, k)
	}
	return p.b.number(i-p.a.R, k)
}

// Beside is a's columns, then b's.
func Beside(a, b Mat) (Mat, api.Errno) {
	both := pair{a, b}
	switch {
	case !both.isFormed() || a.R != b.R:
		return Mat{}, api.ErrShape
	case !grid.IsSide(a.C + b.C):
		return Mat{}, api.ErrArg
	}
	return form(a.R, a.C+b.C, both.beside), api.OK
}

func (p pair) beside(i, k int) zint.Int {
	if k < p.a.C {
		return p.a.number(i, k)
	}
	return p.b.number(i, k-p.a.C)
}
