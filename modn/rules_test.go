package modn

import (
	"math/rand"
	"slices"
	"testing"

	"quincunx/api"
	"quincunx/nat"
	"quincunx/zint"
)

// told is all that the calls answer of three numbers: the whole numbers, and the
// rest.
type told struct {
	numbers []zint.Int
	oks     [4]bool
	errors  [2]api.Errno
}

// tell takes the last one as a modulus, and the one ahead as an exponent too.
func tell(c [3]zint.Int) told {
	a, b, m := c[0], c[1], c[2]
	rest, restOk := Mod(a, m)
	inverse, inverseOk := Inverse(a, m)
	power, powerOk := Pow(a, b, m)
	below, belowOk := Pow(b, zint.Of(-3), m)
	one, multiple, e := Crt([]zint.Int{a}, []zint.Int{m})
	x, all, f := Crt([]zint.Int{a, b, a}, []zint.Int{m, zint.Of(30), zint.Of(1)})
	return told{
		[]zint.Int{rest, inverse, power, below, one, multiple, x, all},
		[4]bool{restOk, inverseOk, powerOk, belowOk},
		[2]api.Errno{e, f},
	}
}

func sameLists(a, b []zint.Int) bool {
	return slices.EqualFunc(a, b, func(x, y zint.Int) bool { return x.Neg == y.Neg && slices.Equal(x.A, y.A) })
}

func (a told) is(b told) bool {
	return sameLists(a.numbers, b.numbers) && a.oks == b.oks && a.errors == b.errors
}

// triples holds samples and longer ones, three at a time: each one is a modulus
// beside each other one.
func triples() [][3]zint.Int {
	list := mixed()
	var out [][3]zint.Int
	for i, a := range list {
		for k, m := range list {
			out = append(out, [3]zint.Int{a, list[(3*i+5*k)%len(list)], m})
		}
	}
	return out
}

func clones(list []zint.Int) []zint.Int {
	out := make([]zint.Int, len(list))
	for i, a := range list {
		out[i] = zint.Int{Neg: a.Neg, A: slices.Clone(a.A)}
	}
	return out
}

// guarded is a's copy, whose natural has three words of spare room that aren't 0:
// with the whole of it.
func guarded(a zint.Int) zint.Int {
	return zint.Int{Neg: a.Neg, A: append(slices.Clone(a.A), 0xabcdef, 0xabcdef, 0xabcdef)}
}

// spoil writes over an answer's words, and its spare room.
func spoil(a zint.Int) {
	words := a.A[:cap(a.A)]
	for i := range words {
		words[i] = 0x5555
	}
}

// R5, R7: arguments and their spare room stay, answers are new memory, that no two
// of them share, and come again.
func TestArgumentsStay(t *testing.T) {
	for _, c := range triples() {
		var args [3]zint.Int
		var wholes []zint.Int
		for i, a := range c {
			wholes = append(wholes, guarded(a))
			args[i] = zint.Int{Neg: a.Neg, A: wholes[i].A[:len(a.A)]}
		}
		were := clones(wholes)
		first := tell(args)
		kept := first
		kept.numbers = clones(first.numbers)
		for i, answer := range first.numbers {
			spoil(answer)
			if !sameLists(wholes, were) {
				t.Fatal("an argument is changed", c, i)
			}
			if !sameLists(first.numbers[i+1:], kept.numbers[i+1:]) {
				t.Fatal("two answers share memory", c, i)
			}
		}
		if !tell(args).is(kept) {
			t.Fatal("another answer", c)
		}
	}
}

// R5, R7: the lists that Crt is handed, their numbers, and their spare room stay,
// whether there is an answer or none, and answers are new memory.
func TestListsStay(t *testing.T) {
	source := rand.New(rand.NewSource(68))
	for n := range 400 {
		rests, moduli := drawnSystem(source, 1+n%6)
		switch n % 4 {
		case 1:
			rests[0] = zint.Add(rests[0], zint.Of(1))
		case 2:
			moduli[len(moduli)-1].Neg = true
		}
		spare := []zint.Int{zint.Of(77), zint.Of(-77)}
		wholeRests, wholeModuli := append(rests, spare...), append(moduli, spare...)
		wereRests, wereModuli := clones(wholeRests), clones(wholeModuli)
		x, all, e := Crt(wholeRests[:len(rests)], wholeModuli[:len(moduli)])
		kept := clones([]zint.Int{x, all})
		spoil(x)
		alike(t, "two answers", all, kept[1])
		spoil(all)
		if !sameLists(wholeRests, wereRests) || !sameLists(wholeModuli, wereModuli) {
			t.Fatal("a list is changed", wereRests, wereModuli)
		}
		y, other, f := Crt(wholeRests[:len(rests)], wholeModuli[:len(moduli)])
		if !sameLists([]zint.Int{y, other}, kept) || e != f {
			t.Fatal("another answer", wereRests, wereModuli)
		}
	}
}

// R5, R7: what is answered of no lists' members is new memory, and comes again.
func TestAnswerOfNoneIsNew(t *testing.T) {
	for range 3 {
		x, all, e := Crt(nil, nil)
		if e != api.OK || len(x.A) > 0 || !slices.Equal(all.A, nat.Nat{1}) {
			t.Fatal(x, all, e)
		}
		spoil(all)
	}
}

// R5: a list of no elements may be nil or empty.
func TestNilAndEmptyLists(t *testing.T) {
	for _, rests := range [][]zint.Int{nil, {}} {
		for _, moduli := range [][]zint.Int{nil, {}} {
			x, all, e := Crt(rests, moduli)
			if e != api.OK || zint.Sign(x) != 0 || !zint.Same(all, zint.Of(1)) {
				t.Error(x, all, e)
			}
		}
		if x, all, e := Crt(rests, ofAll(3)); e != api.ErrShape {
			t.Error(x, all, e)
		}
		if x, all, e := Crt(ofAll(3), rests); e != api.ErrShape {
			t.Error(x, all, e)
		}
	}
}

// R5: one number handed in twice is two arguments, and so is one list.
func TestArgumentsThatShare(t *testing.T) {
	for _, a := range mixed() {
		copies := clones([]zint.Int{a, a, a})
		if !tell([3]zint.Int{a, a, a}).is(tell([3]zint.Int(copies))) {
			t.Error(a)
		}
	}
	list := moduli()
	x, all, e := Crt(list, list)
	if e != api.OK || len(x.A) > 0 || valueOf(all).Cmp(commonMultiple(list)) != 0 {
		t.Error(x, all, e)
	}
}

// A whole number that isn't normal is the same as its normal one; what is answered
// is normal.
func TestNormalOrNot(t *testing.T) {
	for _, c := range triples() {
		answers := tell(c)
		var normal, long [3]zint.Int
		for i, a := range c {
			normal[i], long[i] = zint.From(a.A, a.Neg), longer(a, 3)
		}
		if !tell(normal).is(answers) || !tell(long).is(answers) {
			t.Fatal("noughts behind tell", c)
		}
		for i, answer := range answers.numbers {
			if !isNormal(answer) {
				t.Fatal("not normal", c, i)
			}
		}
	}
}
