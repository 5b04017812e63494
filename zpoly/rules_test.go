package zpoly_test

import (
	"math/rand"
	"slices"
	"testing"

	"quincunx/fpoly"
	"quincunx/gfp"
	"quincunx/nat"
	"quincunx/zint"
	"quincunx/zpoly"
)

// told is all that the calls answer of two polynomials, a number and a field.
type told struct {
	lists   []zpoly.Poly
	numbers []zint.Int
	reduced fpoly.Poly
	degree  int
	oks     [3]bool
}

func tell(a, b zpoly.Poly, c zint.Int, f gfp.Field) told {
	quotient, rest, pseudoOk := zpoly.Pseudo(a, b)
	exact, exactOk := zpoly.Exact(a, b)
	return told{
		lists: []zpoly.Poly{
			zpoly.Norm(a), zpoly.Add(a, b), zpoly.Sub(a, b), zpoly.Scale(a, c), zpoly.Mul(a, b), quotient, rest, exact, zpoly.Primitive(a), zpoly.Gcd(a, b), zpoly.Derive(a),
		},
		numbers: []zint.Int{zpoly.Content(a), zpoly.Eval(a, c)},
		reduced: zpoly.Reduce(a, f),
		degree:  zpoly.Degree(a),
		oks:     [3]bool{pseudoOk, exactOk, zpoly.Same(a, b)},
	}
}

func sameLists(a, b []zpoly.Poly) bool {
	return slices.EqualFunc(a, b, func(x, y zpoly.Poly) bool { return sameInts(x, y) })
}

func (a told) is(b told) bool {
	return sameLists(a.lists, b.lists) && sameInts(a.numbers, b.numbers) && slices.Equal(a.reduced, b.reduced) && a.degree == b.degree && a.oks == b.oks
}

func cloneOf(a zpoly.Poly) zpoly.Poly {
	out := make(zpoly.Poly, len(a))
	for i, x := range a {
		out[i] = zint.Int{Neg: x.Neg, A: slices.Clone(x.A)}
	}
	return out
}

func clones(list []zpoly.Poly) []zpoly.Poly {
	out := make([]zpoly.Poly, len(list))
	for i, a := range list {
		out[i] = cloneOf(a)
	}
	return out
}

// copied is the same answers in memory of their own.
func (a told) copied() told {
	a.lists, a.numbers, a.reduced = clones(a.lists), cloneOf(a.numbers), slices.Clone(a.reduced)
	return a
}

// answers holds all lists, and the numbers as lists of one.
func (a told) answers() []zpoly.Poly {
	return append(slices.Clone(a.lists), a.numbers[:1:1], a.numbers[1:])
}

// guarded is a's copy: each number's natural, and the list, has spare room that isn't
// 0. The words behind the naturals, and the list with what is behind it, are the whole.
type guarded struct {
	whole zpoly.Poly
	words []nat.Nat
	size  int
}

func guard(a zpoly.Poly) guarded {
	g := guarded{size: len(a)}
	for _, x := range append(cloneOf(a), small(77), small(-77)) {
		words := append(x.A, 0xabcdef, 0xabcdef, 0xabcdef)
		g.words = append(g.words, words)
		g.whole = append(g.whole, zint.Int{Neg: x.Neg, A: words[:len(words)-3]})
	}
	return g
}

// handed is the list to hand in: the whole without its spare room, which it still has.
func (g guarded) handed() zpoly.Poly {
	return g.whole[:g.size]
}

// is tells whether nothing of the whole is other than in the copy of it.
func (g guarded) is(b guarded) bool {
	return sameInts(g.whole, b.whole) && slices.EqualFunc(g.words, b.words, func(x, y nat.Nat) bool { return slices.Equal(x, y) })
}

// spoil writes over an answer's numbers, their words, and all spare room.
func spoil(a zpoly.Poly) {
	numbers := a[:cap(a)]
	for i, x := range numbers {
		words := x.A[:cap(x.A)]
		for k := range words {
			words[k] = 0x5555
		}
		numbers[i] = zint.Int{Neg: !x.Neg, A: nat.Nat{0x5555}}
	}
}

// ring is a number of all words, and a field, for polynomials to be told with.
func ring(t *testing.T, i int) (zint.Int, gfp.Field) {
	t.Helper()
	return points()[i%len(points())], fieldOf(t, primes()[i%len(primes())])
}

// R5, R7: arguments and their spare room stay, answers are new memory, that no two of
// them share, and come again.
func TestArgumentsStay(t *testing.T) {
	for i, a := range samples() {
		for k, b := range samples() {
			left, right := guard(a), guard(b)
			c, f := ring(t, i+k)
			number := guard(zpoly.Poly{c})
			first := tell(left.handed(), right.handed(), number.handed()[0], f)
			if !left.is(guard(a)) || !right.is(guard(b)) || !number.is(guard(zpoly.Poly{c})) {
				t.Fatal("an argument is changed", a, b)
			}
			kept := first.copied()
			lists := kept.answers()
			for n, answer := range first.answers() {
				spoil(answer)
				if !left.is(guard(a)) || !right.is(guard(b)) || !number.is(guard(zpoly.Poly{c})) {
					t.Fatal("an answer shares an argument's memory", a, b, n)
				}
				if !sameLists(first.answers()[n+1:], lists[n+1:]) {
					t.Fatal("two answers share memory", a, b, n)
				}
			}
			if !tell(left.handed(), right.handed(), number.handed()[0], f).is(kept) {
				t.Fatal("another answer", a, b)
			}
		}
	}
}

// R5: the numbers of one answer share no memory.
func TestNumbersOfAnAnswer(t *testing.T) {
	for i, a := range samples() {
		for k, b := range samples() {
			c, f := ring(t, i+3*k)
			for n, answer := range tell(a, b, c, f).answers() {
				kept := cloneOf(answer)
				for at := range answer {
					spoil(answer[at : at+1 : at+1])
					if !sameInts(answer[at+1:], kept[at+1:]) {
						t.Fatal(a, b, n, at)
					}
				}
			}
		}
	}
}

// R5: nothing that is handed in is kept: what is written there later changes no
// answer.
func TestNothingIsKept(t *testing.T) {
	source := rand.New(rand.NewSource(132))
	for i := range 300 {
		a, b := drawn(source, 7, 3), drawn(source, 7, 3)
		other, another := cloneOf(a), cloneOf(b)
		c, f := ring(t, i)
		first := tell(a, b, c, f)
		kept := first.copied()
		spoil(a)
		spoil(b)
		if !first.is(kept) || !tell(other, another, c, f).is(kept) {
			t.Fatal(other, another)
		}
	}
}

// R5: Of keeps no list, and answers new memory each time.
func TestMadeListsAreNew(t *testing.T) {
	l := []int64{1, -2, 0, 3}
	first, second := zpoly.Of(l...), zpoly.Of(l...)
	spoil(first)
	l[0], l[1] = 7, 8
	expect(t, "Of", second, of(1, -2, 0, 3))
	expect(t, "Of", zpoly.Of(1, 1, 1, 0), of(1, 1, 1))
}

// R5: one list handed in twice is two arguments, and so are lists that share numbers,
// and numbers that share words.
func TestArgumentsThatShare(t *testing.T) {
	for i, a := range samples() {
		c, f := ring(t, i)
		for _, b := range []zpoly.Poly{a, a[:len(a)/2], a[len(a)/2:], a[:0], slices.Concat(a, a)} {
			left, right := cloneOf(a), cloneOf(b)
			if !tell(a, b, c, f).is(tell(left, right, c, f)) || !tell(b, a, c, f).is(tell(right, left, c, f)) {
				t.Fatal(a, b)
			}
			if len(b) > 0 && !tell(a, b, b[0], f).is(tell(left, right, cloneOf(b)[0], f)) {
				t.Fatal("a number of the list", a, b)
			}
		}
	}
}

// A polynomial that isn't normal is the same as its normal one, in all calls; what is
// answered is normal. R5: nil and empty mean the same.
func TestNormalOrNot(t *testing.T) {
	for i, a := range samples() {
		for k, b := range samples() {
			c, f := ring(t, i+k)
			answers := tell(a, b, c, f)
			first, second := forms(a), forms(b)
			if !tell(first[(i+3*k)%len(first)], second[(5*i+k)%len(second)], longer(c, 2), f).is(answers) || !tell(first[0], second[0], intOf(valueOf(c)), f).is(answers) {
				t.Fatal("how it is written tells", a, b)
			}
			for at, answer := range answers.lists {
				if !isNormal(answer) {
					t.Fatal("not normal", a, b, at, answer)
				}
			}
			if !isNormalInt(answers.numbers[0]) || !isNormalInt(answers.numbers[1]) {
				t.Fatal("not normal", a, b, answers.numbers)
			}
		}
		c, f := ring(t, i)
		if !tell(a, nil, c, f).is(tell(a, zpoly.Poly{}, c, f)) || !tell(nil, a, c, f).is(tell(zpoly.Poly{}, a, c, f)) {
			t.Fatal("nil and empty", a)
		}
	}
}

// R7: called again, and between the calls of others, a call answers the same.
func TestCalledAgain(t *testing.T) {
	source := rand.New(rand.NewSource(133))
	for i := range 300 {
		a, b := drawn(source, 7, 3), drawn(source, 7, 3)
		c, f := ring(t, i)
		d, g := ring(t, 3*i+1)
		first := tell(a, b, c, f)
		tell(b, a, d, g)
		if !tell(a, b, c, f).is(first) {
			t.Fatal(a, b, c)
		}
	}
}

// R1, R3: all short lists of the numbers at the edges are answered; beside false there
// is nothing.
func TestAllArguments(t *testing.T) {
	edges := []zint.Int{{}, {Neg: true}, {Neg: true, A: nat.Nat{0, 0}}, small(1), small(-1), {A: nat.Nat{2, 0}}, long(true, 1<<63), long(false, top), long(true, 0, 1, 0), long(false, top, top)}
	for code := range 1000 {
		a := zpoly.Poly{edges[code%10], edges[code/10%10], edges[code/100]}
		for n := range 30 {
			b := zpoly.Poly{edges[(code+n)%10], edges[(code/7+n)%10], edges[n/3]}
			answers := tell(a[:code%4], b[:n%4], edges[n%10], gfp.Field{})
			if !answers.oks[0] && len(answers.lists[5])+len(answers.lists[6]) != 0 || !answers.oks[1] && len(answers.lists[7]) != 0 {
				t.Fatal("something beside false", a, b)
			}
			isNought := len(numbersOf(b[:n%4])) == 0
			if answers.oks[0] == isNought || isNought && answers.oks[1] {
				t.Fatal(a, b, answers.oks)
			}
		}
	}
}

// R1: long lists are answered, up to the greatest degree that the language multiplies,
// and longer ones.
func TestLongLists(t *testing.T) {
	source := rand.New(rand.NewSource(134))
	a, b := drawnSmall(source, 1000, 9), drawnSmall(source, 3, 9)
	product := zpoly.Mul(a, b)
	if q, ok := zpoly.Exact(product, b); !ok || !zpoly.Same(q, a) {
		t.Fatal(ok)
	}
	checkPseudo(t, a, b)
	power := append(make(zpoly.Poly, 3000), small(-1), small(0))
	if zpoly.Degree(power) != 3000 || !zint.Same(zpoly.Eval(power, small(-1)), small(-1)) || zpoly.Degree(zpoly.Derive(power)) != 2999 {
		t.Fatal("a long list of noughts")
	}
	q, r, ok := zpoly.Pseudo(power, of(0, 0, 2))
	if !ok || len(r) != 0 || len(q) != 2999 || zint.Bits(q[2998]) != 2999 {
		t.Fatal("a long list of noughts by 2 x^2", len(q), len(r), ok)
	}
	expect(t, "Gcd of powers", zpoly.Gcd(power, of(0, 0, 2)), of(0, 0, 1))
}
