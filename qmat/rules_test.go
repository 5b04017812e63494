package qmat_test

import (
	"math"
	"math/rand"
	"slices"
	"testing"

	"quincunx/api"
	"quincunx/nat"
	"quincunx/qmat"
	"quincunx/rat"
	"quincunx/zint"
	"quincunx/zmat"
)

// given is what is handed in: two matrices, one of whole numbers, a factor, a divisor and
// a place.
type given struct {
	a, b  qmat.Mat
	whole zmat.Mat
	c     rat.Rat
	d     zint.Int
	i, k  int
}

// told is all that the calls answer.
type told struct {
	mats   []qmat.Mat
	errs   []api.Errno
	whole  zmat.Mat
	d      zint.Int
	number rat.Rat
	pivots []int
	are    [2]bool
}

// put keeps the next answer.
func (a *told) put(m qmat.Mat, e api.Errno) {
	a.mats, a.errs = append(a.mats, m), append(a.errs, e)
}

func tell(g given) told {
	out := told{number: qmat.At(g.a, g.i, g.k), are: [2]bool{qmat.Formed(g.a), qmat.Same(g.a, g.b)}}
	out.put(qmat.From(g.whole))
	out.put(qmat.Over(g.whole, g.d))
	out.put(qmat.Add(g.a, g.b))
	out.put(qmat.Scale(g.a, g.c))
	out.put(qmat.Mul(g.a, g.b))
	out.put(qmat.Transpose(g.a))
	out.put(qmat.Inverse(g.a))
	out.put(qmat.Solve(g.a, g.b))
	out.put(qmat.Kernel(g.a))
	reduced, pivots, e := qmat.Reduce(g.a)
	out.put(reduced, e)
	out.pivots = pivots
	out.whole, out.d, e = qmat.Clear(g.a)
	out.errs = append(out.errs, e)
	return out
}

// numbers holds all whole numbers of the answers: they share their words.
func (a told) numbers() []zint.Int {
	list := []zint.Int{a.d, a.number.N, a.number.D}
	for _, m := range a.mats {
		for _, x := range m.A {
			list = append(list, x.N, x.D)
		}
	}
	return append(list, a.whole.A...)
}

// shape tells all of the answers but their numbers.
func (a told) shape() []int {
	list := []int{a.whole.R, a.whole.C, len(a.whole.A), len(a.pivots)}
	for _, m := range a.mats {
		list = append(list, m.R, m.C, len(m.A))
	}
	for _, e := range a.errs {
		list = append(list, int(e))
	}
	for _, is := range a.are {
		list = append(list, map[bool]int{true: 1}[is])
	}
	return append(list, a.pivots...)
}

func sameInts(a, b []zint.Int) bool {
	return slices.EqualFunc(a, b, func(x, y zint.Int) bool { return x.Neg == y.Neg && slices.Equal(x.A, y.A) })
}

// kept is what is to be held against the same answers later.
type kept struct {
	numbers []zint.Int
	shape   []int
}

func (a told) keep() kept {
	out := kept{shape: a.shape()}
	for _, x := range a.numbers() {
		out.numbers = append(out.numbers, cloneInt(x))
	}
	return out
}

func (a told) is(b kept) bool {
	return slices.Equal(a.shape(), b.shape) && sameInts(a.numbers(), b.numbers)
}

func cloneInt(a zint.Int) zint.Int {
	return zint.Int{Neg: a.Neg, A: slices.Clone(a.A)}
}

func clone(a qmat.Mat) qmat.Mat {
	out := qmat.Mat{R: a.R, C: a.C}
	for _, x := range a.A {
		out.A = append(out.A, rat.Rat{N: cloneInt(x.N), D: cloneInt(x.D)})
	}
	return out
}

func cloneWhole(a zmat.Mat) zmat.Mat {
	out := zmat.Mat{R: a.R, C: a.C}
	for _, x := range a.A {
		out.A = append(out.A, cloneInt(x))
	}
	return out
}

func (g given) clone() given {
	g.a, g.b, g.whole = clone(g.a), clone(g.b), cloneWhole(g.whole)
	g.c, g.d = rat.Rat{N: cloneInt(g.c.N), D: cloneInt(g.c.D)}, cloneInt(g.d)
	return g
}

// roomy is a copy whose natural has three words of spare room that aren't 0.
func roomy(a zint.Int) zint.Int {
	words := append(slices.Clone(a.A), 0xabcdef, 0xabcdef, 0xabcdef)
	return zint.Int{Neg: a.Neg, A: words[:len(a.A)]}
}

func roomyRat(a rat.Rat) rat.Rat {
	return rat.Rat{N: roomy(a.N), D: roomy(a.D)}
}

// guard is a copy of what is handed in, with spare room behind each natural, and each
// list.
func (g given) guard() given {
	lists := []*[]rat.Rat{&g.a.A, &g.b.A}
	for _, list := range lists {
		var own []rat.Rat
		for _, x := range append(slices.Clone(*list), over(77, 5), over(-77, 5)) {
			own = append(own, roomyRat(x))
		}
		*list = own[:len(own)-2]
	}
	var own []zint.Int
	for _, x := range append(slices.Clone(g.whole.A), small(77), small(-77)) {
		own = append(own, roomy(x))
	}
	g.whole.A = own[:len(own)-2]
	g.c, g.d = roomyRat(g.c), roomy(g.d)
	return g
}

// words holds all words of what is handed in, those in spare room too, and each sign.
func (g given) words() []uint64 {
	var list []uint64
	numbers := []zint.Int{g.c.N, g.c.D, g.d}
	for _, x := range slices.Concat(g.a.A[:len(g.a.A)+2], g.b.A[:len(g.b.A)+2]) {
		numbers = append(numbers, x.N, x.D)
	}
	for _, x := range append(numbers, g.whole.A[:len(g.whole.A)+2]...) {
		list = append(list, uint64(len(x.A)))
		list = append(list, x.A[:len(x.A)+3]...)
		if x.Neg {
			list = append(list, 1)
		}
	}
	return list
}

// spoilInt writes over a number's words, and their spare room.
func spoilInt(a zint.Int) {
	words := a.A[:cap(a.A)]
	for i := range words {
		words[i] = 0x5555
	}
}

// spoil writes over a matrix' fractions, their words, and all spare room.
func spoil(a qmat.Mat) {
	list := a.A[:cap(a.A)]
	for i, x := range list {
		spoilInt(x.N)
		spoilInt(x.D)
		list[i] = rat.Rat{N: zint.Int{Neg: true, A: nat.Nat{0x5555}}, D: zint.Int{A: nat.Nat{0x5555}}}
	}
}

// spoilWhole does the same with a matrix of whole numbers.
func spoilWhole(a zmat.Mat) {
	list := a.A[:cap(a.A)]
	for i, x := range list {
		spoilInt(x)
		list[i] = zint.Int{Neg: !x.Neg, A: nat.Nat{0x5555}}
	}
}

// spoilAll writes over each answer.
func (a told) spoilAll() {
	for _, m := range a.mats {
		spoil(m)
	}
	spoilWhole(a.whole)
	for _, x := range []zint.Int{a.d, a.number.N, a.number.D} {
		spoilInt(x)
	}
	pivots := a.pivots[:cap(a.pivots)]
	for i := range pivots {
		pivots[i] = -5
	}
}

// few holds samples of few fractions, and some that aren't formed.
func few() []qmat.Mat {
	return slices.DeleteFunc(append(samples(), unformed()...), func(a qmat.Mat) bool { return len(a.A) > 16 })
}

// handed is the n-th way to hand in two matrices, with all that goes beside them.
func handed(a, b qmat.Mat, n int) given {
	list := append(wholes(), unformedWhole()...)
	list = slices.DeleteFunc(list, func(a zmat.Mat) bool { return len(a.A) > 16 })
	places := []int{0, 1, 2, a.R - 1, a.R, -1}
	d := append(divisors(), noughtInts()...)
	return given{a: a, b: b, whole: list[n%len(list)], c: factors()[n%len(factors())], d: d[n%len(d)], i: places[n%6], k: places[n/6%6]}
}

// pairs holds two matrices at a time: each of the few beside some others.
func pairs() []given {
	var list []given
	for i, a := range few() {
		for k, b := range few() {
			if i == k || (i+k)%9 == 0 || a.R == b.R && (i+k)%4 == 0 {
				list = append(list, handed(a, b, 7*i+k))
			}
		}
	}
	return list
}

// R5, R7: arguments and their spare room stay, answers are new memory, and come again.
func TestArgumentsStay(t *testing.T) {
	for _, g := range pairs() {
		guarded := g.guard()
		words := guarded.words()
		first := tell(guarded)
		answers := first.keep()
		if !slices.Equal(guarded.words(), words) {
			t.Fatal("an argument is changed", g)
		}
		first.spoilAll()
		if !slices.Equal(guarded.words(), words) {
			t.Fatal("an answer shares an argument's memory", g)
		}
		if !tell(guarded).is(answers) {
			t.Fatal("another answer", g)
		}
	}
}

// R5: no two numbers of the answers share memory, nor do their lists.
func TestAnswersShareNothing(t *testing.T) {
	for _, g := range pairs() {
		first := tell(g)
		answers, list := first.keep(), first.numbers()
		for at, x := range list {
			spoilInt(x)
			if !sameInts(list[at+1:], answers.numbers[at+1:]) {
				t.Fatal("two numbers share memory", g, at)
			}
		}
		second := tell(g)
		for _, m := range second.mats {
			_ = append(m.A, over(5, 7))
		}
		_, _ = append(second.whole.A, small(5)), append(second.pivots, -5)
		if !second.is(answers) {
			t.Fatal("two lists share memory", g)
		}
	}
}

// R5: nothing that is handed in is kept: what is written there later changes no answer.
func TestNothingIsKept(t *testing.T) {
	source := rand.New(rand.NewSource(158))
	for n := range 300 {
		r, c := source.Intn(5), source.Intn(5)
		g := handed(drawn(source, r, c, 2), drawn(source, r, c, 2), n).clone()
		other := g.clone()
		first := tell(g)
		answers := first.keep()
		spoil(g.a)
		spoil(g.b)
		spoilWhole(g.whole)
		for _, x := range []zint.Int{g.c.N, g.c.D, g.d} {
			spoilInt(x)
		}
		if !first.is(answers) || !tell(other).is(answers) {
			t.Fatal(other)
		}
	}
}

// R5: one matrix handed in twice is two arguments, and so are those that share fractions,
// and numbers that are one.
func TestArgumentsThatShare(t *testing.T) {
	for n, a := range samples() {
		turned := qmat.Mat{R: a.C, C: a.R, A: a.A}
		for at, b := range []qmat.Mat{a, turned, {R: a.R / 2, C: a.C, A: a.A[:a.R/2*a.C]}, {R: 1, C: a.C, A: a.A[:min(a.C, len(a.A))]}} {
			g := handed(a, b, n+7*at)
			if len(a.A) > 0 {
				g.c, g.d = a.A[0], a.A[0].N
			}
			if !tell(g).is(tell(g.clone()).keep()) {
				t.Fatal(a, b)
			}
		}
	}
	for _, x := range []zint.Int{small(3), small(-1), long(true, 5, 0, 7), long(false, 0, 0)} {
		for n := range 6 {
			a := qmat.Mat{R: n, C: n, A: slices.Repeat([]rat.Rat{{N: x, D: x}}, n*n)}
			for i := range n {
				a.A[i*n+i] = rat.Rat{N: zint.Int{Neg: !x.Neg, A: x.A}, D: small(2)}
			}
			checkAll(t, a)
			checkSolve(t, a, a)
		}
	}
}

// A matrix that isn't normal is the same as its normal one, in all calls; what is
// answered is normal. R5: nil and empty mean the same.
func TestNormalOrNot(t *testing.T) {
	for n, g := range pairs() {
		first := tell(g)
		answers := first.keep()
		if !qmat.Formed(g.a) || !qmat.Formed(g.b) {
			continue
		}
		other := g
		other.a, other.b, other.d = forms(g.a)[n%8], forms(g.b)[n/8%8], longer(g.d, 2)
		other.c = rat.Rat{N: longer(g.c.N, 1), D: longer(g.c.D, 3)}
		if !tell(other).is(answers) {
			t.Fatal("how it is written tells", g, other)
		}
		if slices.ContainsFunc(first.mats, func(x qmat.Mat) bool { return !isNormal(x) }) || !isNormalWhole(first.whole) || !isNormalInt(first.d) || !isNormalRat(first.number) {
			t.Fatal("not normal", g, first)
		}
	}
	for _, side := range [][2]int{{0, 0}, {0, 2}, {2, 0}, {1, 1}} {
		none, empty := qmat.Mat{R: side[0], C: side[1]}, qmat.Mat{R: side[0], C: side[1], A: []rat.Rat{}}
		for n, a := range few() {
			if !tell(handed(a, none, n)).is(tell(handed(a, empty, n)).keep()) || !tell(handed(none, a, n)).is(tell(handed(empty, a, n)).keep()) {
				t.Fatal("nil and empty", a, side)
			}
		}
	}
}

// R7: called again, and between the calls of others, a call answers the same.
func TestCalledAgain(t *testing.T) {
	source := rand.New(rand.NewSource(159))
	for n := range 300 {
		g := handed(drawn(source, 4, 4, 2), drawn(source, 4, 3, 2), n)
		answers := tell(g).keep()
		tell(handed(drawnNext(source, 3, 5), drawnNext(source, 5, 3), n+1))
		if !tell(g).is(answers) {
			t.Fatal(g)
		}
	}
}

// R1, R3: all arguments at the edges are answered, with errors of the chapter alone;
// beside one each result is its zero value.
func TestAllArguments(t *testing.T) {
	places := []int{math.MinInt, -1 << 32, -65, -1, 0, 1, 2, 3, 63, 64, 65, 1 << 32, math.MaxInt}
	list := append(unformed(), qmat.Mat{}, whole(1, 1, 3), whole(2, 3, 1, 2, 3, 4, 5, 6), whole(0, 64), whole(64, 0), whole(2, 2, 0, 0, 0, 0), whole(3, 3, 0, 0, 0, 1, 0, 2, 0, 0, 0))
	for n, a := range list {
		for m, b := range list {
			g := handed(a, b, 11*n+m)
			g.i, g.k = places[(n+m)%len(places)], places[(3*n+m)%len(places)]
			answers := tell(g)
			for at, got := range answers.mats {
				e := answers.errs[at]
				isNothing := got.R == 0 && got.C == 0 && len(got.A) == 0
				isKnown := e == api.OK || e == api.ErrShape || e == api.ErrDomain && (at == 1 || at == 6) || e == api.ErrNone && at == 7
				if !isKnown || e != api.OK && !isNothing || e == api.OK && !isNormal(got) {
					t.Fatal(g, at, e, got)
				}
			}
			isFormed := qmat.Formed(a)
			if e := answers.errs[10]; isFormed != (e == api.OK) || e != api.OK && (len(answers.d.A) > 0 || len(answers.whole.A) > 0 || answers.whole.R != 0 || answers.whole.C != 0) {
				t.Fatal(g, e, answers.whole, answers.d)
			}
			if !isFormed && len(answers.pivots) > 0 {
				t.Fatal(g, answers.pivots)
			}
		}
	}
}
