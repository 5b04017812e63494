package zmat

import (
	"quincunx/api"
	"quincunx/zint"
)

// checkRows is the error of a matrix that isn't formed, or hasn't one of the rows.
func checkRows(a Mat, list ...int) api.Errno {
	if !Formed(a) {
		return api.ErrShape
	}
	for _, i := range list {
		if i < 0 || i >= a.R {
			return api.ErrArg
		}
	}
	return api.OK
}

// SwapRows is a whose rows i and k have changed places.
func SwapRows(a Mat, i, k int) (Mat, api.Errno) {
	if e := checkRows(a, i, k); e != api.OK {
		return Mat{}, e
	}
	return form(a.R, a.C, func(row, column int) zint.Int {
		switch row {
		case i:
			row = k
		case k:
			row = i
		}
		return a.number(row, column)
	}), api.OK
}

// AddRow is a with c times the row k put to the row i.
func AddRow(a Mat, i, k int, c zint.Int) (Mat, api.Errno) {
	if e := checkRows(a, i, k); e != api.OK {
		return Mat{}, e
	}
	if i == k {
		return Mat{}, api.ErrArg
	}
	return form(a.R, a.C, func(row, column int) zint.Int {
		if row != i {
			return a.number(row, column)
		}
		return zint.Add(a.place(i, column), zint.Mul(c, a.place(k, column)))
	}), api.OK
}

// NegRow is a with the row i's negative in its place.
func NegRow(a Mat, i int) (Mat, api.Errno) {
	if e := checkRows(a, i); e != api.OK {
		return Mat{}, e
	}
	return form(a.R, a.C, func(row, column int) zint.Int {
		if row != i {
			return a.number(row, column)
		}
		return zint.Neg(a.place(i, column))
	}), api.OK
}

// Rows is the rows of a from from on, up to ahead of to.
func Rows(a Mat, from, to int) (Mat, api.Errno) {
	switch {
	case !Formed(a):
		return Mat{}, api.ErrShape
	case from < 0 || from > to || to > a.R:
		return Mat{}, api.ErrArg
	}
	return form(to-from, a.C, func(row, column int) zint.Int { return a.number(from+row, column) }), api.OK
}
