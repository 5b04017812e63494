package qmat

import (
	"quincunx/api"
	"quincunx/rat"
)

// areFormed tells whether both are.
func areFormed(a, b Mat) bool {
	return Formed(a) && Formed(b)
}

// Add is the sum.
func Add(a, b Mat) (Mat, api.Errno) {
	if !areFormed(a, b) || !sameSides(a, b) {
		return Mat{}, api.ErrShape
	}
	return form(a.R, a.C, func(i, k int) rat.Rat { return rat.Add(a.place(i, k), b.place(i, k)) }), api.OK
}

// Scale is c times a.
func Scale(a Mat, c rat.Rat) (Mat, api.Errno) {
	if !Formed(a) {
		return Mat{}, api.ErrShape
	}
	return form(a.R, a.C, func(i, k int) rat.Rat { return rat.Mul(c, a.place(i, k)) }), api.OK
}

// Mul is the product.
func Mul(a, b Mat) (Mat, api.Errno) {
	if !areFormed(a, b) || a.C != b.R {
		return Mat{}, api.ErrShape
	}
	rows, columns := make([]part, a.R), make([]part, b.C)
	for i := range rows {
		rows[i] = partOf(a.row(i))
	}
	for k := range columns {
		columns[k] = partOf(b.column(k))
	}
	return form(a.R, b.C, func(i, k int) rat.Rat { return rows[i].times(columns[k]) }), api.OK
}

// Transpose is a with its rows made columns.
func Transpose(a Mat) (Mat, api.Errno) {
	if !Formed(a) {
		return Mat{}, api.ErrShape
	}
	return form(a.C, a.R, func(i, k int) rat.Rat { return a.number(k, i) }), api.OK
}
