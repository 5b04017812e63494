package qmat

import (
	"quincunx/api"
	"quincunx/rat"
	"quincunx/zint"
	"quincunx/zmat"
)

// Reduce is the reduced form, and its pivots.
func Reduce(a Mat) (Mat, []int, api.Errno) {
	if !Formed(a) {
		return Mat{}, nil, api.ErrShape
	}
	r := reductionOf(a, Mat{R: a.R})
	out := noughts(a.R, a.C)
	for k := range a.C {
		for i, x := range r.column(k) {
			out.put(i, k, x)
		}
	}
	return out, r.Pivots, api.OK
}

// put writes a fraction of an answer, which is kept.
func (a Mat) put(i, k int, x rat.Rat) {
	a.A[i*a.C+k] = x
}

// Inverse is the matrix whose product with a is the identity.
func Inverse(a Mat) (Mat, api.Errno) {
	if !Formed(a) || a.R != a.C {
		return Mat{}, api.ErrShape
	}
	out, e := Solve(a, identity(a.R))
	if e == api.ErrNone {
		return Mat{}, api.ErrDomain
	}
	return out, e
}

// identity is the matrix of n rows whose products are the other factor.
func identity(n int) Mat {
	one, _ := zmat.Identity(n)
	out, _ := From(one)
	return out
}

// Solve is the x with a x = b that has noughts in all rows that aren't pivots.
func Solve(a, b Mat) (Mat, api.Errno) {
	if !areFormed(a, b) || a.R != b.R {
		return Mat{}, api.ErrShape
	}
	r := reductionOf(a, b)
	if r.isLeft() {
		return Mat{}, api.ErrNone
	}
	out := noughts(a.C, b.C)
	for k := range b.C {
		for i, x := range r.column(a.C + k) {
			out.put(r.Pivots[i], k, x)
		}
	}
	return out, api.OK
}

// Kernel is the matrix of a column for each of a's that is no pivot: the x with a x = 0
// that has 1 in its row, and noughts in all others that aren't pivots.
func Kernel(a Mat) (Mat, api.Errno) {
	if !Formed(a) {
		return Mat{}, api.ErrShape
	}
	r := reductionOf(a, Mat{R: a.R})
	others := r.others(a.C)
	out := noughts(a.C, len(others))
	for at, k := range others {
		for i, x := range r.column(k) {
			out.put(r.Pivots[i], at, rat.Neg(x))
		}
		out.put(k, at, rat.Of(zint.Of(1)))
	}
	return out, api.OK
}
