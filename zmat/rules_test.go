package zmat_test

import (
	"math"
	"math/rand"
	"slices"
	"testing"

	"quincunx/api"
	"quincunx/nat"
	"quincunx/zint"
	"quincunx/zmat"
)

// told is all that the calls answer of two matrices, a number and two rows.
type told struct {
	mats   []zmat.Mat
	errs   []api.Errno
	number zint.Int
	bits   int
	are    [3]bool
}

// put keeps the next answer.
func (a *told) put(m zmat.Mat, e api.Errno) {
	a.mats, a.errs = append(a.mats, m), append(a.errs, e)
}

func tell(a, b zmat.Mat, c zint.Int, i, k int) told {
	out := told{number: zmat.At(a, i, k), bits: zmat.Bits(a), are: [3]bool{zmat.Formed(a), zmat.Same(a, b), zmat.Zero(a)}}
	out.put(zmat.New(i, k))
	out.put(zmat.Identity(i))
	out.put(zmat.Norm(a))
	out.put(zmat.Add(a, b))
	out.put(zmat.Sub(a, b))
	out.put(zmat.Scale(a, c))
	out.put(zmat.Mul(a, b))
	out.put(zmat.Transpose(a))
	out.put(zmat.SwapRows(a, i, k))
	out.put(zmat.AddRow(a, i, k, c))
	out.put(zmat.NegRow(a, i))
	out.put(zmat.Rows(a, i, k))
	out.put(zmat.Stack(a, b))
	out.put(zmat.Beside(a, b))
	return out
}

func sameInt(a, b zint.Int) bool {
	return a.Neg == b.Neg && slices.Equal(a.A, b.A)
}

func sameMat(a, b zmat.Mat) bool {
	return a.R == b.R && a.C == b.C && slices.EqualFunc(a.A, b.A, sameInt)
}

func sameMats(a, b []zmat.Mat) bool {
	return slices.EqualFunc(a, b, sameMat)
}

func (a told) is(b told) bool {
	return sameMats(a.mats, b.mats) && slices.Equal(a.errs, b.errs) && sameInt(a.number, b.number) && a.bits == b.bits && a.are == b.are
}

func cloneInt(a zint.Int) zint.Int {
	return zint.Int{Neg: a.Neg, A: slices.Clone(a.A)}
}

func clone(a zmat.Mat) zmat.Mat {
	out := zmat.Mat{R: a.R, C: a.C}
	for _, x := range a.A {
		out.A = append(out.A, cloneInt(x))
	}
	return out
}

func clones(list []zmat.Mat) []zmat.Mat {
	var out []zmat.Mat
	for _, a := range list {
		out = append(out, clone(a))
	}
	return out
}

// copied is the same answers in memory of their own.
func (a told) copied() told {
	a.mats, a.errs, a.number = clones(a.mats), slices.Clone(a.errs), cloneInt(a.number)
	return a
}

// guarded is a's copy: each number's natural, and the list, has spare room that isn't
// 0. The words behind the naturals, and the list with what is behind it, are the whole.
type guarded struct {
	whole zmat.Mat
	words []nat.Nat
	size  int
}

func guard(a zmat.Mat) guarded {
	g := guarded{size: len(a.A), whole: zmat.Mat{R: a.R, C: a.C}}
	for _, x := range append(clone(a).A, small(77), small(-77)) {
		words := append(x.A, 0xabcdef, 0xabcdef, 0xabcdef)
		g.words = append(g.words, words)
		g.whole.A = append(g.whole.A, zint.Int{Neg: x.Neg, A: words[:len(words)-3]})
	}
	return g
}

// handed is the matrix to hand in: the whole without its spare room, which it still
// has.
func (g guarded) handed() zmat.Mat {
	return zmat.Mat{R: g.whole.R, C: g.whole.C, A: g.whole.A[:g.size]}
}

// is tells whether nothing of the whole is other than in the copy of it.
func (g guarded) is(b guarded) bool {
	return sameMat(g.whole, b.whole) && slices.EqualFunc(g.words, b.words, func(x, y nat.Nat) bool { return slices.Equal(x, y) })
}

// spoilInt writes over a number's words, and their spare room.
func spoilInt(a zint.Int) {
	words := a.A[:cap(a.A)]
	for i := range words {
		words[i] = 0x5555
	}
}

// spoil writes over an answer's numbers, their words, and all spare room.
func spoil(a zmat.Mat) {
	numbers := a.A[:cap(a.A)]
	for i, x := range numbers {
		spoilInt(x)
		numbers[i] = zint.Int{Neg: !x.Neg, A: nat.Nat{0x5555}}
	}
}

// few holds samples of few numbers, and some that aren't formed.
func few() []zmat.Mat {
	var list []zmat.Mat
	for _, a := range append(samples(), unformed()...) {
		if len(a.A) < 16 {
			list = append(list, a)
		}
	}
	return list
}

// rows is two rows, and a factor, for the pair of that number: rows that are there, and
// such that aren't.
func rows(a zmat.Mat, n int) (int, int, zint.Int) {
	list := []int{0, 1, 2, a.R - 1, a.R, -1}
	return list[n%6], list[n/6%6], factors()[n%len(factors())]
}

// checkStays holds the rules on memory of all calls of a and b.
func checkStays(t *testing.T, a, b zmat.Mat, c zint.Int, i, k int) {
	t.Helper()
	left, right, number := guard(a), guard(b), guard(ints(1, 1, c))
	first := tell(left.handed(), right.handed(), number.handed().A[0], i, k)
	kept := first.copied()
	stays := func() bool { return left.is(guard(a)) && right.is(guard(b)) && number.is(guard(ints(1, 1, c))) }
	if !stays() {
		t.Fatal("an argument is changed", a, b)
	}
	for n, answer := range first.mats {
		spoil(answer)
		if !stays() {
			t.Fatal("an answer shares an argument's memory", a, b, n)
		}
		if !sameMats(first.mats[n+1:], kept.mats[n+1:]) || !sameInt(first.number, kept.number) {
			t.Fatal("two answers share memory", a, b, n)
		}
	}
	spoilInt(first.number)
	if !stays() || !tell(left.handed(), right.handed(), number.handed().A[0], i, k).is(kept) {
		t.Fatal("another answer", a, b)
	}
}

// R5, R7: arguments and their spare room stay, answers are new memory, that no two of
// them share, and come again.
func TestArgumentsStay(t *testing.T) {
	n := 0
	for _, a := range few() {
		for _, b := range few() {
			i, k, c := rows(a, n)
			checkStays(t, a, b, c, i, k)
			n++
		}
	}
	for _, a := range samples() {
		for at := range 36 {
			i, k, c := rows(a, at)
			checkStays(t, a, a, c, i, k)
		}
	}
}

// R5: the numbers of one answer share no memory.
func TestNumbersOfAnAnswer(t *testing.T) {
	n := 0
	for _, a := range few() {
		for _, b := range few() {
			i, k, c := rows(a, n)
			n++
			for _, answer := range tell(a, b, c, i, k).mats {
				kept := clone(answer)
				for at := range answer.A {
					spoil(zmat.Mat{A: answer.A[at : at+1 : at+1]})
					if !slices.EqualFunc(answer.A[at+1:], kept.A[at+1:], sameInt) {
						t.Fatal(a, b, at)
					}
				}
			}
		}
	}
}

// R5: nothing that is handed in is kept: what is written there later changes no
// answer.
func TestNothingIsKept(t *testing.T) {
	source := rand.New(rand.NewSource(118))
	for n := range 500 {
		r, c := source.Intn(5), source.Intn(5)
		a, b := drawn(source, r, c, 3), drawn(source, r, c, 3)
		other, another := clone(a), clone(b)
		i, k, x := rows(a, n)
		first := tell(a, b, x, i, k)
		kept := first.copied()
		spoil(a)
		spoil(b)
		if !first.is(kept) || !tell(other, another, x, i, k).is(kept) {
			t.Fatal(other, another)
		}
	}
}

// R5: what is made is new memory each time, and Of keeps no list.
func TestMadeMatricesAreNew(t *testing.T) {
	l := []int64{1, -2, 0, 3}
	for _, call := range []func() (zmat.Mat, api.Errno){
		func() (zmat.Mat, api.Errno) { return zmat.New(2, 3) },
		func() (zmat.Mat, api.Errno) { return zmat.Of(2, 2, l...) },
		func() (zmat.Mat, api.Errno) { return zmat.Identity(3) },
	} {
		first, _ := call()
		kept := clone(first)
		second, _ := call()
		spoil(first)
		third, _ := call()
		if !sameMat(second, kept) || !sameMat(third, kept) {
			t.Fatal(second, third, kept)
		}
	}
	got, e := zmat.Of(2, 2, l...)
	l[0], l[1] = 7, 8
	expect(t, "Of", got, e, mat(2, 2, 1, -2, 0, 3))
}

// R5: one matrix handed in twice is two arguments, and so are those that share numbers,
// and a number of the matrix.
func TestArgumentsThatShare(t *testing.T) {
	for n, a := range samples() {
		turned := zmat.Mat{R: a.C, C: a.R, A: a.A}
		for at, b := range []zmat.Mat{a, turned, {R: a.R / 2, C: a.C, A: a.A[:a.R/2*a.C]}, {R: 1, C: a.C, A: a.A[:min(a.C, len(a.A))]}, {R: 2 * a.R, C: a.C, A: slices.Concat(a.A, a.A)}} {
			i, k, c := rows(a, n+7*at)
			left, right := clone(a), clone(b)
			if !tell(a, b, c, i, k).is(tell(left, right, c, i, k)) || !tell(b, a, c, i, k).is(tell(right, left, c, i, k)) {
				t.Fatal(a, b)
			}
			if len(b.A) > 0 && !tell(a, b, b.A[0], i, k).is(tell(left, right, cloneInt(b.A[0]), i, k)) {
				t.Fatal("a number of the matrix", a, b)
			}
		}
	}
}

// A matrix that isn't normal is the same as its normal one, in all calls; what is
// answered is normal. R5: nil and empty mean the same.
func TestNormalOrNot(t *testing.T) {
	n := 0
	for _, a := range samples() {
		for _, b := range samples() {
			i, k, c := rows(a, n)
			n++
			answers := tell(a, b, c, i, k)
			first, second := forms(a)[n%10], forms(b)[3*n%10]
			if !tell(first, second, longer(c, 2), i, k).is(answers) || !tell(matOf(tableOf(a)), matOf(tableOf(b)), intOf(valueOf(c)), i, k).is(answers) {
				t.Fatal("how it is written tells", a, b)
			}
			if slices.ContainsFunc(answers.mats, func(x zmat.Mat) bool { return !isNormal(x) }) || !isNormalInt(answers.number) {
				t.Fatal("not normal", a, b, answers)
			}
		}
	}
	for _, side := range [][2]int{{0, 0}, {0, 2}, {2, 0}, {1, 1}} {
		none, empty := zmat.Mat{R: side[0], C: side[1]}, zmat.Mat{R: side[0], C: side[1], A: []zint.Int{}}
		for n := range 36 {
			i, k, c := rows(none, n)
			for _, a := range few() {
				if !tell(a, none, c, i, k).is(tell(a, empty, c, i, k)) || !tell(none, a, c, i, k).is(tell(empty, a, c, i, k)) {
					t.Fatal("nil and empty", a, side)
				}
			}
		}
	}
}

// R7: called again, and between the calls of others, a call answers the same.
func TestCalledAgain(t *testing.T) {
	source := rand.New(rand.NewSource(119))
	for n := range 500 {
		r, c := source.Intn(5), source.Intn(5)
		a, b := drawn(source, r, c, 3), drawn(source, c, r, 3)
		i, k, x := rows(a, n)
		first := tell(a, b, x, i, k)
		tell(b, a, drawnInt(source, 2), k, i)
		if !tell(a, b, x, i, k).is(first) {
			t.Fatal(a, b, x)
		}
	}
}

// R1, R3: all arguments at the edges are answered; beside an error there is a matrix
// whose fields are zero, and R6: no answer has what isn't formed.
func TestAllArguments(t *testing.T) {
	places := []int{math.MinInt, -1 << 32, -65, -1, 0, 1, 2, 3, 63, 64, 65, 1 << 32, math.MaxInt}
	list := append(unformed(), zmat.Mat{}, mat(1, 1, 3), mat(2, 3, 1, 2, 3, 4, 5, 6), mat(0, 64), mat(64, 0), mat(2, 2, 0, 0, 0, 0), counting(most, most))
	for n, a := range list {
		for at, i := range places {
			for _, k := range places {
				b := list[(3*n+at+k&7)%len(list)]
				answers := tell(a, b, factors()[at], i, k)
				for index, e := range answers.errs {
					got := answers.mats[index]
					isNothing := got.R == 0 && got.C == 0 && len(got.A) == 0
					if e != api.OK && !isNothing || e == api.OK && !isNormal(got) || e != api.OK && e != api.ErrArg && e != api.ErrShape {
						t.Fatal(a, b, i, k, index, e, got)
					}
				}
			}
		}
	}
}
