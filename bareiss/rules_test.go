package bareiss_test

import (
	"math"
	"math/rand"
	"slices"
	"testing"

	"quincunx/api"
	"quincunx/bareiss"
	"quincunx/nat"
	"quincunx/zint"
	"quincunx/zmat"
)

// told is all that the calls answer of a matrix, a row and a column.
type told struct {
	mats    []zmat.Mat
	numbers []zint.Int
	pivots  []int
	rank    int
	errs    [6]api.Errno
}

func tell(a zmat.Mat, i, k int) told {
	det, detErr := bareiss.Det(a)
	rank, rankErr := bareiss.Rank(a)
	adjugate, adjugateErr := bareiss.Adjugate(a)
	without, withoutErr := bareiss.Without(a, i, k)
	echelon, pivots, echelonErr := bareiss.Echelon(a)
	bound, boundErr := bareiss.Bound(a)
	return told{
		mats: []zmat.Mat{adjugate, without, echelon}, numbers: []zint.Int{det, bound}, pivots: pivots, rank: rank,
		errs: [6]api.Errno{detErr, adjugateErr, boundErr, rankErr, echelonErr, withoutErr},
	}
}

func sameInt(a, b zint.Int) bool {
	return a.Neg == b.Neg && slices.Equal(a.A, b.A)
}

func sameMat(a, b zmat.Mat) bool {
	return a.R == b.R && a.C == b.C && slices.EqualFunc(a.A, b.A, sameInt)
}

func (a told) is(b told) bool {
	isSame := slices.EqualFunc(a.mats, b.mats, sameMat) && slices.EqualFunc(a.numbers, b.numbers, sameInt)
	return isSame && slices.Equal(a.pivots, b.pivots) && a.rank == b.rank && a.errs == b.errs
}

func cloneInt(a zint.Int) zint.Int {
	return zint.Int{Neg: a.Neg, A: slices.Clone(a.A)}
}

func clone(a zmat.Mat) zmat.Mat {
	out := zmat.Mat{R: a.R, C: a.C}
	for _, x := range a.A {
		out.A = append(out.A, cloneInt(x))
	}
	return out
}

// copied is the same answers in memory of their own.
func (a told) copied() told {
	out := told{pivots: slices.Clone(a.pivots), rank: a.rank, errs: a.errs}
	for _, m := range a.mats {
		out.mats = append(out.mats, clone(m))
	}
	for _, x := range a.numbers {
		out.numbers = append(out.numbers, cloneInt(x))
	}
	return out
}

// guarded is a's copy: each number's natural, and the list, has spare room that isn't
// 0. The words behind the naturals, and the list with what is behind it, are the whole.
type guarded struct {
	whole zmat.Mat
	words []nat.Nat
	size  int
}

func guard(a zmat.Mat) guarded {
	g := guarded{size: len(a.A), whole: zmat.Mat{R: a.R, C: a.C}}
	for _, x := range append(clone(a).A, small(77), small(-77)) {
		words := append(x.A, 0xabcdef, 0xabcdef, 0xabcdef)
		g.words = append(g.words, words)
		g.whole.A = append(g.whole.A, zint.Int{Neg: x.Neg, A: words[:len(words)-3]})
	}
	return g
}

// handed is the matrix to hand in: the whole without its spare room, which it still
// has.
func (g guarded) handed() zmat.Mat {
	return zmat.Mat{R: g.whole.R, C: g.whole.C, A: g.whole.A[:g.size]}
}

// is tells whether nothing of the whole is other than in the copy of it.
func (g guarded) is(b guarded) bool {
	return sameMat(g.whole, b.whole) && slices.EqualFunc(g.words, b.words, func(x, y nat.Nat) bool { return slices.Equal(x, y) })
}

// spoilInt writes over a number's words, and their spare room.
func spoilInt(a zint.Int) {
	words := a.A[:cap(a.A)]
	for i := range words {
		words[i] = 0x5555
	}
}

// spoil writes over a matrix' numbers, their words, and all spare room.
func spoil(a zmat.Mat) {
	numbers := a.A[:cap(a.A)]
	for i, x := range numbers {
		spoilInt(x)
		numbers[i] = zint.Int{Neg: !x.Neg, A: nat.Nat{0x5555}}
	}
}

// spoilAll writes over each answer.
func (a told) spoilAll() {
	for _, m := range a.mats {
		spoil(m)
	}
	for _, x := range a.numbers {
		spoilInt(x)
	}
	pivots := a.pivots[:cap(a.pivots)]
	for i := range pivots {
		pivots[i] = -5
	}
}

// few holds samples, and some that aren't formed.
func few() []zmat.Mat {
	return slices.DeleteFunc(append(samples(), unformed()...), func(a zmat.Mat) bool { return len(a.A) > most })
}

// R5, R7: arguments and their spare room stay, answers are new memory, and come again.
func TestArgumentsStay(t *testing.T) {
	for _, a := range few() {
		for _, at := range [][2]int{{0, 0}, {a.R - 1, a.C - 1}, {a.R, 0}, {1, 0}, {0, 1}, {-1, -1}} {
			g := guard(a)
			first := tell(g.handed(), at[0], at[1])
			kept := first.copied()
			if !g.is(guard(a)) {
				t.Fatal("an argument is changed", a)
			}
			first.spoilAll()
			if !g.is(guard(a)) {
				t.Fatal("an answer shares an argument's memory", a)
			}
			if !tell(g.handed(), at[0], at[1]).is(kept) {
				t.Fatal("another answer", a, at)
			}
		}
	}
}

// R5: no two lists of one answer share memory.
func TestListsOfAnAnswer(t *testing.T) {
	source := rand.New(rand.NewSource(132))
	list := append(few(), drawnOfRank(source, 5, 5, 4, 1), drawnOfRank(source, 5, 5, 2, 1), drawnNext(source, 6, 6), drawnNext(source, 8, 8))
	for _, a := range list {
		first := tell(a, 0, 0)
		kept := first.copied()
		for m, answer := range first.mats {
			for at := range answer.A {
				spoil(zmat.Mat{A: answer.A[at : at+1 : at+1]})
				if !slices.EqualFunc(answer.A[at+1:], kept.mats[m].A[at+1:], sameInt) {
					t.Fatal("two numbers share memory", a, m, at)
				}
			}
			if !slices.EqualFunc(first.mats[m+1:], kept.mats[m+1:], sameMat) || !slices.EqualFunc(first.numbers, kept.numbers, sameInt) || !slices.Equal(first.pivots, kept.pivots) {
				t.Fatal("two answers share memory", a, m)
			}
		}
		spoilInt(first.numbers[0])
		if !sameInt(first.numbers[1], kept.numbers[1]) {
			t.Fatal("two answers share memory", a)
		}
	}
}

// R5: nothing that is handed in is kept: what is written there later changes no
// answer.
func TestNothingIsKept(t *testing.T) {
	source := rand.New(rand.NewSource(133))
	for range 300 {
		a := drawn(source, source.Intn(5), source.Intn(5), 3)
		other := clone(a)
		first := tell(a, 1, 0)
		kept := first.copied()
		spoil(a)
		if !first.is(kept) || !tell(other, 1, 0).is(kept) {
			t.Fatal(other)
		}
	}
}

// R5: numbers of a matrix that share memory are as good as any.
func TestNumbersThatShare(t *testing.T) {
	for _, x := range []zint.Int{small(3), small(-1), long(true, 5, 0, 7), long(false, 0, 0), long(true, top, top, 0)} {
		for n := range 6 {
			a := zmat.Mat{R: n, C: n, A: slices.Repeat([]zint.Int{x}, n*n)}
			for i := range n {
				a.A[i*n+i] = zint.Int{Neg: !x.Neg, A: x.A}
			}
			want := tell(clone(a), 0, n-1)
			if !tell(a, 0, n-1).is(want) {
				t.Fatal(x, n)
			}
			checkSmall(t, a)
		}
	}
}

// A matrix that isn't normal is the same as its normal one, in all calls; what is
// answered is normal. R5: nil and empty mean the same.
func TestNormalOrNot(t *testing.T) {
	for _, a := range samples() {
		answers := tell(a, 0, 0)
		for _, b := range forms(a) {
			if !tell(b, 0, 0).is(answers) {
				t.Fatal("how it is written tells", a, b)
			}
		}
		if slices.ContainsFunc(answers.mats, func(x zmat.Mat) bool { return !isNormal(x) }) || slices.ContainsFunc(answers.numbers, func(x zint.Int) bool { return !isNormalInt(x) }) {
			t.Fatal("not normal", a, answers)
		}
	}
	for _, side := range [][2]int{{0, 0}, {0, 2}, {2, 0}, {1, 1}} {
		none, empty := zmat.Mat{R: side[0], C: side[1]}, zmat.Mat{R: side[0], C: side[1], A: []zint.Int{}}
		for _, at := range [][2]int{{0, 0}, {1, 1}, {-1, 0}} {
			if !tell(none, at[0], at[1]).is(tell(empty, at[0], at[1])) {
				t.Fatal("nil and empty", side)
			}
		}
	}
}

// R7: called again, and between the calls of others, a call answers the same.
func TestCalledAgain(t *testing.T) {
	source := rand.New(rand.NewSource(134))
	for range 300 {
		a, b := drawn(source, 4, 4, 3), drawn(source, 3, 5, 3)
		first := tell(a, 2, 1)
		tell(b, 0, 4)
		if !tell(a, 2, 1).is(first) {
			t.Fatal(a)
		}
	}
}

// R1, R3: all arguments at the edges are answered; beside an error each result is its
// zero value.
func TestAllArguments(t *testing.T) {
	places := []int{math.MinInt, -1 << 32, -65, -1, 0, 1, 2, 3, 63, 64, 65, 1 << 32, math.MaxInt}
	list := append(unformed(), zmat.Mat{}, mat(1, 1, 3), mat(2, 3, 1, 2, 3, 4, 5, 6), mat(3, 3, 0, 0, 0, 1, 0, 2, 0, 0, 0), mat(0, most), mat(most, 0), mat(2, 2, 0, 0, 0, 0))
	for _, a := range list {
		for _, i := range places {
			for _, k := range places {
				answers := tell(a, i, k)
				checkErrors(t, a, i, k, answers)
				for n, e := range []api.Errno{answers.errs[1], answers.errs[5], answers.errs[4]} {
					got := answers.mats[n]
					if isNothing := got.R == 0 && got.C == 0 && len(got.A) == 0; e != api.OK && !isNothing || e == api.OK && !isNormal(got) {
						t.Fatal(a, i, k, n, e, got)
					}
				}
			}
		}
	}
}

// checkErrors holds which error each call answers.
func checkErrors(t *testing.T, a zmat.Mat, i, k int, answers told) {
	t.Helper()
	formed, square, without := api.OK, api.OK, api.OK
	if i < 0 || i >= a.R || k < 0 || k >= a.C {
		without = api.ErrArg
	}
	if a.R != a.C {
		square = api.ErrShape
	}
	if !isFormed(a) {
		formed, square, without = api.ErrShape, api.ErrShape, api.ErrShape
	}
	if want := [6]api.Errno{square, square, square, formed, formed, without}; answers.errs != want {
		t.Fatal(a, i, k, answers.errs, want)
	}
}
