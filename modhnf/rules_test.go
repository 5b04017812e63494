package modhnf_test

import (
	"math"
	"math/rand"
	"slices"
	"testing"

	"quincunx/api"
	"quincunx/modhnf"
	"quincunx/nat"
	"quincunx/zint"
	"quincunx/zmat"
)

// told is all that the calls answer of a matrix and a list: matrices first, numbers as
// matrices of one number.
type told struct {
	mats []zmat.Mat
	errs [4]api.Errno
}

func tell(a zmat.Mat, v []zint.Int) told {
	h, hermiteErr := modhnf.Hermite(a)
	inserted, insertErr := modhnf.Insert(a, v)
	multiple, multipleErr := modhnf.Multiple(a)
	index, indexErr := modhnf.Index(a)
	return told{
		mats: []zmat.Mat{h, inserted, ints(1, 1, multiple), ints(1, 1, index)},
		errs: [4]api.Errno{hermiteErr, insertErr, multipleErr, indexErr},
	}
}

func sameInt(a, b zint.Int) bool {
	return a.Neg == b.Neg && slices.Equal(a.A, b.A)
}

func sameMat(a, b zmat.Mat) bool {
	return a.R == b.R && a.C == b.C && slices.EqualFunc(a.A, b.A, sameInt)
}

func (a told) equals(b told) bool {
	return slices.EqualFunc(a.mats, b.mats, sameMat) && a.errs == b.errs
}

func cloneInt(a zint.Int) zint.Int {
	return zint.Int{Neg: a.Neg, A: slices.Clone(a.A)}
}

func clone(a zmat.Mat) zmat.Mat {
	out := zmat.Mat{R: a.R, C: a.C}
	for _, x := range a.A {
		out.A = append(out.A, cloneInt(x))
	}
	return out
}

// copied is the same answers in memory of their own.
func (a told) copied() told {
	out := told{errs: a.errs}
	for _, m := range a.mats {
		out.mats = append(out.mats, clone(m))
	}
	return out
}

// guarded is a's copy: each number's natural, and the list, has spare room that isn't
// 0. The words behind the naturals, and the list with what is behind it, are the whole.
type guarded struct {
	whole zmat.Mat
	words []nat.Nat
	size  int
}

func guard(a zmat.Mat) guarded {
	g := guarded{size: len(a.A), whole: zmat.Mat{R: a.R, C: a.C}}
	for _, x := range append(clone(a).A, small(77), small(-77)) {
		words := append(x.A, 0xabcdef, 0xabcdef, 0xabcdef)
		g.words = append(g.words, words)
		g.whole.A = append(g.whole.A, zint.Int{Neg: x.Neg, A: words[:len(words)-3]})
	}
	return g
}

// handed is the matrix to hand in: the whole without its spare room, which it still
// has.
func (g guarded) handed() zmat.Mat {
	return zmat.Mat{R: g.whole.R, C: g.whole.C, A: g.whole.A[:g.size]}
}

// is tells whether nothing of the whole is other than in the copy of it.
func (g guarded) is(b guarded) bool {
	return sameMat(g.whole, b.whole) && slices.EqualFunc(g.words, b.words, func(x, y nat.Nat) bool { return slices.Equal(x, y) })
}

// spoil writes over a matrix' numbers, their words, and all spare room.
func spoil(a zmat.Mat) {
	numbers := a.A[:cap(a.A)]
	for i, x := range numbers {
		words := x.A[:cap(x.A)]
		for k := range words {
			words[k] = 0x5555
		}
		numbers[i] = zint.Int{Neg: !x.Neg, A: nat.Nat{0x5555}}
	}
}

// spoilAll writes over each answer.
func (a told) spoilAll() {
	for _, m := range a.mats {
		spoil(m)
	}
}

// few holds samples, and some that aren't formed.
func few() []zmat.Mat {
	return slices.DeleteFunc(append(samples(), unformed()...), func(a zmat.Mat) bool { return len(a.A) > most })
}

// rowOfSums is a list for a's Insert: the sum of its rows, as far as it has them, and 1
// more at the end.
func rowOfSums(a zmat.Mat) []zint.Int {
	v := make([]zint.Int, min(max(a.C, 0), most))
	for i, x := range a.A {
		if a.C > 0 && i%a.C < len(v) {
			v[i%a.C] = zint.Add(v[i%a.C], longer(x, 1))
		}
	}
	if len(v) > 0 {
		v[len(v)-1] = zint.Add(v[len(v)-1], small(1))
	}
	return v
}

// R5, R7: arguments and their spare room stay, answers are new memory, and come again.
func TestArgumentsStay(t *testing.T) {
	for _, a := range few() {
		v := rowOf(rowOfSums(a))
		left, right := guard(a), guard(v)
		stays := func() bool { return left.is(guard(a)) && right.is(guard(v)) }
		first := tell(left.handed(), right.handed().A)
		kept := first.copied()
		if !stays() {
			t.Fatal("an argument is changed", a)
		}
		first.spoilAll()
		if !stays() {
			t.Fatal("an answer shares an argument's memory", a)
		}
		if !tell(left.handed(), right.handed().A).equals(kept) {
			t.Fatal("another answer", a)
		}
	}
}

// R5: no two lists of one answer share memory.
func TestListsOfAnAnswer(t *testing.T) {
	source := rand.New(rand.NewSource(179))
	list := append(few(), drawnNext(source, 8, 6), matOf(drawnFull(source, 8, 0)), matOf(drawnFull(source, 5, 2).turned(source, 20)), matOf(drawnForm(source, 8, 8)), mat(3, 3, 1, 0, 0, 0, 1, 0, 0, 0, 1), mat(3, 2, 1, 2, 3, 5, 7, 9))
	for _, a := range list {
		first := tell(a, rowOfSums(a))
		kept := first.copied()
		for m, answer := range first.mats {
			for at := range answer.A {
				spoil(zmat.Mat{A: answer.A[at : at+1 : at+1]})
				if !slices.EqualFunc(answer.A[at+1:], kept.mats[m].A[at+1:], sameInt) {
					t.Fatal("two numbers share memory", a, m, at)
				}
			}
			if !slices.EqualFunc(first.mats[m+1:], kept.mats[m+1:], sameMat) {
				t.Fatal("two answers share memory", a, m)
			}
		}
	}
}

// R5: nothing that is handed in is kept: what is written there later changes no
// answer.
func TestNothingIsKept(t *testing.T) {
	source := rand.New(rand.NewSource(184))
	for n := range 400 {
		a := drawn(source, 1+source.Intn(5), 1+source.Intn(4), 3)
		if n%2 == 0 {
			a = matOf(drawnFull(source, 1+source.Intn(5), source.Intn(3)))
		}
		v := rowOfSums(a)
		other, list := clone(a), clone(rowOf(v)).A
		first := tell(a, v)
		kept := first.copied()
		spoil(a)
		spoil(rowOf(v))
		if !first.equals(kept) || !tell(other, list).equals(kept) {
			t.Fatal(other, list)
		}
	}
}

// R5: numbers that share memory are as good as any, and a matrix' row is a list.
func TestArgumentsThatShare(t *testing.T) {
	for _, x := range []zint.Int{small(3), small(-1), long(true, 5, 0, 7), long(false, 0, 0), long(true, top, top, 0)} {
		for n := range 6 {
			a := zmat.Mat{R: n, C: n, A: slices.Repeat([]zint.Int{x}, n*n)}
			for i := range n {
				a.A[i*n+i] = zint.Int{Neg: !x.Neg, A: x.A}
			}
			v := a.A[:n]
			if !tell(a, v).equals(tell(clone(a), clone(rowOf(v)).A)) {
				t.Fatal(x, n)
			}
			checkForm(t, a)
		}
	}
	for _, a := range samples() {
		v := a.A[:min(a.C, len(a.A))]
		if !tell(a, v).equals(tell(clone(a), clone(rowOf(v)).A)) {
			t.Fatal(a)
		}
	}
}

// A matrix that isn't normal is the same as its normal one, in all calls; what is
// answered is normal. R5: nil and empty mean the same.
func TestNormalOrNot(t *testing.T) {
	for n, a := range samples() {
		v := rowOfSums(a)
		answers := tell(a, v)
		for at, b := range forms(a) {
			if !tell(b, forms(rowOf(v))[(n+3*at)%10].A).equals(answers) {
				t.Fatal("how it is written tells", a, b)
			}
		}
		if slices.ContainsFunc(answers.mats, func(x zmat.Mat) bool { return !isNormal(x) }) {
			t.Fatal("not normal", a, answers)
		}
	}
	for _, side := range [][2]int{{0, 0}, {0, 2}, {2, 0}, {1, 1}} {
		none, empty := zmat.Mat{R: side[0], C: side[1]}, zmat.Mat{R: side[0], C: side[1], A: []zint.Int{}}
		for _, v := range [][]zint.Int{nil, {}, vector(1), vector(3, 0)} {
			if !tell(none, v).equals(tell(empty, append([]zint.Int{}, v...))) {
				t.Fatal("nil and empty", side)
			}
		}
	}
}

// R7: called again, and between the calls of others, a call answers the same.
func TestCalledAgain(t *testing.T) {
	source := rand.New(rand.NewSource(185))
	for range 300 {
		a := drawn(source, 5, 4, 3)
		v := drawn(source, 1, 4, 2).A
		first := tell(a, v)
		tell(drawn(source, 5, 4, 1), v[:3])
		tell(matOf(drawnFull(source, 4, 1)), v)
		if !tell(a, v).equals(first) {
			t.Fatal(a, v)
		}
	}
}

// R1, R3: all arguments at the edges are answered; beside an error each result is its
// zero value.
func TestAllArguments(t *testing.T) {
	sizes := []int{0, 1, 2, 3, 63, 64, 65, 200}
	list := append(unformed(), zmat.Mat{}, mat(1, 1, 3), mat(1, 1, -3), mat(1, 1, 0), mat(2, 3, 2, 1, 0, 0, 3, 5), mat(3, 3, 0, 0, 0, 1, 0, 2, 0, 0, 0), mat(3, 2, 2, 1, 0, 3, 0, 0), mat(0, most), mat(most, 0), mat(63, 0), mat(2, 2, 0, 0, 0, 0), mat(2, 1, math.MinInt64, 1), mat(most, 1, make([]int64, most)...))
	for n, a := range list {
		for _, size := range sizes {
			v := slices.Repeat([]zint.Int{noughtInts()[n%8]}, size)
			checkErrors(t, a, v, tell(a, v))
		}
	}
}

// checkErrors holds which error each call answers, and what stands beside it.
func checkErrors(t *testing.T, a zmat.Mat, v []zint.Int, answers told) {
	t.Helper()
	full, insert := api.OK, api.OK
	switch {
	case !isFormed(a):
		full = api.ErrShape
	case !tableOf(a).isFull():
		full = api.ErrDomain
	}
	switch {
	case !isFormed(a) || len(v) != a.C:
		insert = api.ErrShape
	case !tableOf(a).isHermite() || a.R == most:
		insert = api.ErrArg
	}
	want := [4]api.Errno{full, insert, full, full}
	if answers.errs != want {
		t.Fatal(a, len(v), answers.errs, want)
	}
	for n, e := range want {
		got := answers.mats[n]
		isNothing := got.R == 0 && got.C == 0 && len(got.A) == 0
		if n >= 2 {
			isNothing = len(got.A[0].A) == 0 && !got.A[0].Neg
		}
		if e != api.OK && !isNothing || e == api.OK && !isNormal(got) {
			t.Fatal(a, len(v), n, e, got)
		}
	}
}
