package hnf_test

import (
	"math"
	"math/rand"
	"slices"
	"testing"

	"quincunx/api"
	"quincunx/hnf"
	"quincunx/nat"
	"quincunx/zint"
	"quincunx/zmat"
)

// told is all that the calls answer of two matrices and a list: matrices first, then the
// list as a matrix of one row.
type told struct {
	mats   []zmat.Mat
	pivots []int
	is     [3]bool
	errs   [5]api.Errno
}

func tell(a, b zmat.Mat, v []zint.Int) told {
	h, u, hermiteErr := hnf.Hermite(a)
	lattice, latticeErr := hnf.Lattice(a)
	within, withinErr := hnf.Within(a, b)
	other, otherErr := hnf.Within(b, a)
	list, listErr := hnf.Coordinates(a, v)
	return told{
		mats: []zmat.Mat{h, u, lattice, rowOf(list)}, pivots: hnf.Pivots(a), is: [3]bool{hnf.Is(a), within, other},
		errs: [5]api.Errno{hermiteErr, latticeErr, withinErr, otherErr, listErr},
	}
}

func sameInt(a, b zint.Int) bool {
	return a.Neg == b.Neg && slices.Equal(a.A, b.A)
}

func sameMat(a, b zmat.Mat) bool {
	return a.R == b.R && a.C == b.C && slices.EqualFunc(a.A, b.A, sameInt)
}

func (a told) equals(b told) bool {
	return slices.EqualFunc(a.mats, b.mats, sameMat) && slices.Equal(a.pivots, b.pivots) && a.is == b.is && a.errs == b.errs
}

func cloneInt(a zint.Int) zint.Int {
	return zint.Int{Neg: a.Neg, A: slices.Clone(a.A)}
}

func clone(a zmat.Mat) zmat.Mat {
	out := zmat.Mat{R: a.R, C: a.C}
	for _, x := range a.A {
		out.A = append(out.A, cloneInt(x))
	}
	return out
}

// copied is the same answers in memory of their own.
func (a told) copied() told {
	out := told{pivots: slices.Clone(a.pivots), is: a.is, errs: a.errs}
	for _, m := range a.mats {
		out.mats = append(out.mats, clone(m))
	}
	return out
}

// guarded is a's copy: each number's natural, and the list, has spare room that isn't
// 0. The words behind the naturals, and the list with what is behind it, are the whole.
type guarded struct {
	whole zmat.Mat
	words []nat.Nat
	size  int
}

func guard(a zmat.Mat) guarded {
	g := guarded{size: len(a.A), whole: zmat.Mat{R: a.R, C: a.C}}
	for _, x := range append(clone(a).A, small(77), small(-77)) {
		words := append(x.A, 0xabcdef, 0xabcdef, 0xabcdef)
		g.words = append(g.words, words)
		g.whole.A = append(g.whole.A, zint.Int{Neg: x.Neg, A: words[:len(words)-3]})
	}
	return g
}

// handed is the matrix to hand in: the whole without its spare room, which it still
// has.
func (g guarded) handed() zmat.Mat {
	return zmat.Mat{R: g.whole.R, C: g.whole.C, A: g.whole.A[:g.size]}
}

// is tells whether nothing of the whole is other than in the copy of it.
func (g guarded) is(b guarded) bool {
	return sameMat(g.whole, b.whole) && slices.EqualFunc(g.words, b.words, func(x, y nat.Nat) bool { return slices.Equal(x, y) })
}

// spoil writes over a matrix' numbers, their words, and all spare room.
func spoil(a zmat.Mat) {
	numbers := a.A[:cap(a.A)]
	for i, x := range numbers {
		words := x.A[:cap(x.A)]
		for k := range words {
			words[k] = 0x5555
		}
		numbers[i] = zint.Int{Neg: !x.Neg, A: nat.Nat{0x5555}}
	}
}

// spoilAll writes over each answer.
func (a told) spoilAll() {
	for _, m := range a.mats {
		spoil(m)
	}
	pivots := a.pivots[:cap(a.pivots)]
	for i := range pivots {
		pivots[i] = -5
	}
}

// few holds samples, and some that aren't formed.
func few() []zmat.Mat {
	return slices.DeleteFunc(append(samples(), unformed()...), func(a zmat.Mat) bool { return len(a.A) > most })
}

// listFor is a list for a's Coordinates: the sum of its rows, as far as it has them.
func listFor(a zmat.Mat) []zint.Int {
	v := make([]zint.Int, min(max(a.C, 0), most))
	for i, x := range a.A {
		if a.C > 0 && i%a.C < len(v) {
			v[i%a.C] = zint.Add(v[i%a.C], longer(x, 1))
		}
	}
	return v
}

// R5, R7: arguments and their spare room stay, answers are new memory, and come again.
func TestArgumentsStay(t *testing.T) {
	list := few()
	for n, a := range list {
		for _, b := range []zmat.Mat{a, list[(7*n+3)%len(list)], drawnNext(rand.New(rand.NewSource(157)), 2, min(max(a.C, 0), most))} {
			v := rowOf(listFor(a))
			left, right, behind := guard(a), guard(b), guard(v)
			stays := func() bool { return left.is(guard(a)) && right.is(guard(b)) && behind.is(guard(v)) }
			first := tell(left.handed(), right.handed(), behind.handed().A)
			kept := first.copied()
			if !stays() {
				t.Fatal("an argument is changed", a, b)
			}
			first.spoilAll()
			if !stays() {
				t.Fatal("an answer shares an argument's memory", a, b)
			}
			if !tell(left.handed(), right.handed(), behind.handed().A).equals(kept) {
				t.Fatal("another answer", a, b)
			}
		}
	}
}

// R5: no two lists of one answer share memory.
func TestListsOfAnAnswer(t *testing.T) {
	source := rand.New(rand.NewSource(158))
	list := append(few(), drawnOfRank(source, 5, 5, 4, 1), drawnOfRank(source, 6, 3, 2, 1), drawnNext(source, 6, 6), drawnNext(source, 8, 8), matOf(drawnForm(source, 8, 8)))
	for _, a := range list {
		first := tell(a, a, listFor(a))
		kept := first.copied()
		for m, answer := range first.mats {
			for at := range answer.A {
				spoil(zmat.Mat{A: answer.A[at : at+1 : at+1]})
				if !slices.EqualFunc(answer.A[at+1:], kept.mats[m].A[at+1:], sameInt) {
					t.Fatal("two numbers share memory", a, m, at)
				}
			}
			if !slices.EqualFunc(first.mats[m+1:], kept.mats[m+1:], sameMat) || !slices.Equal(first.pivots, kept.pivots) {
				t.Fatal("two answers share memory", a, m)
			}
		}
	}
}

// R5: nothing that is handed in is kept: what is written there later changes no
// answer.
func TestNothingIsKept(t *testing.T) {
	source := rand.New(rand.NewSource(159))
	for n := range 400 {
		a := drawn(source, source.Intn(5), source.Intn(5), 3)
		if n%2 == 0 {
			a = matOf(drawnForm(source, source.Intn(5), source.Intn(5)))
		}
		b, v := drawn(source, 3, a.C, 2), listFor(a)
		other, another, list := clone(a), clone(b), clone(rowOf(v)).A
		first := tell(a, b, v)
		kept := first.copied()
		spoil(a)
		spoil(b)
		spoil(rowOf(v))
		if !first.equals(kept) || !tell(other, another, list).equals(kept) {
			t.Fatal(other, another)
		}
	}
}

// R5: numbers that share memory are as good as any, and one matrix handed in twice is
// two arguments.
func TestArgumentsThatShare(t *testing.T) {
	for _, x := range []zint.Int{small(3), small(-1), long(true, 5, 0, 7), long(false, 0, 0), long(true, top, top, 0)} {
		for n := range 6 {
			a := zmat.Mat{R: n, C: n, A: slices.Repeat([]zint.Int{x}, n*n)}
			for i := range n {
				a.A[i*n+i] = zint.Int{Neg: !x.Neg, A: x.A}
			}
			v := a.A[:n]
			if !tell(a, a, v).equals(tell(clone(a), clone(a), clone(rowOf(v)).A)) {
				t.Fatal(x, n)
			}
			checkHermite(t, a)
		}
	}
	for _, a := range samples() {
		v := a.A[:min(a.C, len(a.A))]
		if !tell(a, a, v).equals(tell(clone(a), clone(a), clone(rowOf(v)).A)) {
			t.Fatal(a)
		}
	}
}

// A matrix that isn't normal is the same as its normal one, in all calls; what is
// answered is normal. R5: nil and empty mean the same.
func TestNormalOrNot(t *testing.T) {
	for n, a := range samples() {
		v := listFor(a)
		answers := tell(a, a, v)
		for at, b := range forms(a) {
			list := forms(rowOf(v))[(n+3*at)%10].A
			if !tell(b, a, list).equals(answers) || !tell(a, b, list).equals(answers) {
				t.Fatal("how it is written tells", a, b)
			}
		}
		if slices.ContainsFunc(answers.mats, func(x zmat.Mat) bool { return !isNormal(x) }) {
			t.Fatal("not normal", a, answers)
		}
	}
	for _, side := range [][2]int{{0, 0}, {0, 2}, {2, 0}, {1, 1}} {
		none, empty := zmat.Mat{R: side[0], C: side[1]}, zmat.Mat{R: side[0], C: side[1], A: []zint.Int{}}
		for _, a := range append(few(), none) {
			if !tell(none, a, nil).equals(tell(empty, a, []zint.Int{})) || !tell(a, none, nil).equals(tell(a, empty, []zint.Int{})) {
				t.Fatal("nil and empty", side)
			}
		}
	}
}

// R7: called again, and between the calls of others, a call answers the same.
func TestCalledAgain(t *testing.T) {
	source := rand.New(rand.NewSource(160))
	for range 300 {
		a, b := drawn(source, 4, 4, 3), drawn(source, 3, 4, 3)
		v := drawn(source, 1, 4, 2).A
		first := tell(a, b, v)
		tell(b, drawn(source, 5, 4, 1), v[:3])
		if !tell(a, b, v).equals(first) {
			t.Fatal(a, b)
		}
	}
}

// R1, R3: all arguments at the edges are answered; beside an error each result is its
// zero value.
func TestAllArguments(t *testing.T) {
	sizes := []int{0, 1, 2, 3, 63, 64, 65, 200}
	list := append(unformed(), zmat.Mat{}, mat(1, 1, 3), mat(1, 1, -3), mat(2, 3, 1, 2, 3, 4, 5, 6), mat(2, 3, 2, 1, 0, 0, 3, 5), mat(3, 3, 0, 0, 0, 1, 0, 2, 0, 0, 0), mat(0, most), mat(most, 0), mat(2, 2, 0, 0, 0, 0), mat(2, 1, math.MinInt64, 1))
	for n, a := range list {
		for _, b := range list {
			for _, size := range sizes {
				v := slices.Repeat([]zint.Int{noughtInts()[n%8]}, size)
				checkErrors(t, a, b, v, tell(a, b, v))
			}
		}
	}
}

// checkErrors holds which error each call answers, and what stands beside it.
func checkErrors(t *testing.T, a, b zmat.Mat, v []zint.Int, answers told) {
	t.Helper()
	formed, within, list := api.OK, api.OK, api.OK
	if !isFormed(a) {
		formed = api.ErrShape
	}
	if !isFormed(a) || !isFormed(b) || a.C != b.C {
		within = api.ErrShape
	}
	switch {
	case !isFormed(a) || len(v) != a.C:
		list = api.ErrShape
	case !tableOf(a).isHermite():
		list = api.ErrArg
	}
	if want := [5]api.Errno{formed, formed, within, within, list}; answers.errs != want {
		t.Fatal(a, b, len(v), answers.errs, want)
	}
	if within != api.OK && (answers.is[1] || answers.is[2]) || formed != api.OK && (answers.is[0] || len(answers.pivots) != 0) {
		t.Fatal("beside an error", a, b, answers.is, answers.pivots)
	}
	for n, e := range []api.Errno{formed, formed, formed, list} {
		got := answers.mats[n]
		isNothing := got.R*got.C == 0 && len(got.A) == 0 && (n == 3 || got.R == 0 && got.C == 0)
		if e != api.OK && !isNothing || e == api.OK && !isNormal(got) {
			t.Fatal(a, len(v), n, e, got)
		}
	}
}
