package rat_test

import (
	"math/rand"
	"slices"
	"testing"

	"quincunx/nat"
	"quincunx/rat"
	"quincunx/zint"
)

// told is all that the calls answer of two fractions: the whole numbers, those of
// fractions among them, and the rest.
type told struct {
	numbers []zint.Int
	oks     [6]bool
	counts  [3]int
	text    string
}

func tell(a, b rat.Rat) told {
	quotient, quoOk := rat.Quo(a, b)
	power, powOk := rat.Pow(a, 3)
	below, belowOk := rat.Pow(a, -2)
	same, sameOk := rat.Pow(a, 1)
	one, oneOk := rat.Pow(b, 0)
	whole, wholeOk := rat.Whole(a)
	var out told
	for _, c := range []rat.Rat{rat.Neg(a), rat.Add(a, b), rat.Sub(a, b), rat.Mul(a, b), quotient, power, below, same, one} {
		out.numbers = append(out.numbers, c.N, c.D)
	}
	out.numbers = append(out.numbers, whole, rat.Floor(a), rat.Round(a))
	out.oks = [6]bool{quoOk, powOk, belowOk, sameOk, oneOk, wholeOk}
	out.counts = [3]int{rat.Sign(a), rat.Cmp(a, b), rat.Bits(a)}
	out.text = rat.Print(a)
	return out
}

func (a told) is(b told) bool {
	return sameInts(a.numbers, b.numbers) && a.oks == b.oks && a.counts == b.counts && a.text == b.text
}

func clones(list []zint.Int) []zint.Int {
	out := make([]zint.Int, len(list))
	for i, a := range list {
		out[i] = zint.Int{Neg: a.Neg, A: slices.Clone(a.A)}
	}
	return out
}

// guarded is a's copy, whose natural has three words of spare room that aren't 0:
// with the whole of it.
func guarded(a zint.Int) zint.Int {
	return zint.Int{Neg: a.Neg, A: append(slices.Clone(a.A), 0xabcdef, 0xabcdef, 0xabcdef)}
}

// cut is the whole without the spare room that guarded made.
func cut(whole zint.Int) zint.Int {
	return zint.Int{Neg: whole.Neg, A: whole.A[:len(whole.A)-3]}
}

// spoil writes over an answer's words, and its spare room.
func spoil(a zint.Int) {
	words := a.A[:cap(a.A)]
	for i := range words {
		words[i] = 0x5555
	}
}

// checkNew spoils one number after the other, and fails if a whole one, or a later
// answer, is changed by that.
func checkNew(t *testing.T, answers, wholes []zint.Int) {
	t.Helper()
	were, kept := clones(wholes), clones(answers)
	for i, answer := range answers {
		spoil(answer)
		if !sameInts(wholes, were) {
			t.Fatal("an argument is changed", were, i)
		}
		if !sameInts(answers[i+1:], kept[i+1:]) {
			t.Fatal("two answers share memory", were, i)
		}
	}
}

// R5, R7: arguments and their spare room stay, answers are new memory, that no two of
// them share, and come again.
func TestArgumentsStay(t *testing.T) {
	list := append(mixed(), noughts()[:12]...)
	for _, a := range list {
		for _, b := range list {
			wholes := []zint.Int{guarded(a.N), guarded(a.D), guarded(b.N), guarded(b.D)}
			were := clones(wholes)
			left := rat.Rat{N: cut(wholes[0]), D: cut(wholes[1])}
			right := rat.Rat{N: cut(wholes[2]), D: cut(wholes[3])}
			first := tell(left, right)
			if !sameInts(wholes, were) {
				t.Fatal("an argument is changed", a, b)
			}
			kept := first
			kept.numbers = clones(first.numbers)
			checkNew(t, first.numbers, wholes)
			if !tell(left, right).is(kept) {
				t.Fatal("another answer", a, b)
			}
		}
	}
}

// R5, R7: the same of what is made, of whole numbers and of texts.
func TestMadeFractionsAreNew(t *testing.T) {
	for _, a := range append(mixed(), noughts()...) {
		wholes := []zint.Int{guarded(a.N), guarded(a.D)}
		n, d := cut(wholes[0]), cut(wholes[1])
		for _, call := range []func() rat.Rat{
			func() rat.Rat { made, _ := rat.Make(n, d); return made },
			func() rat.Rat { made, _ := rat.Make(n, zint.Of(0)); return made },
			func() rat.Rat { made, _ := rat.Make(n, n); return made },
			func() rat.Rat { return rat.Of(n) },
			func() rat.Rat { read, _ := rat.Parse(rat.Print(a)); return read },
			func() rat.Rat { read, _ := rat.Parse("no number"); return read },
		} {
			first := call()
			kept := clones(listOf(first))
			checkNew(t, listOf(first), wholes)
			if !sameInts(listOf(call()), kept) {
				t.Fatal("another answer", a)
			}
		}
	}
}

// R5: one fraction handed in twice is two arguments, and so are those that share
// words, be it N with D.
func TestArgumentsThatShare(t *testing.T) {
	for _, a := range append(mixed(), noughts()...) {
		for _, b := range []rat.Rat{a, {N: a.D, D: a.N}, {N: a.N, D: a.N}, {N: a.D, D: a.D}, {N: zint.Int{A: a.N.A[:len(a.N.A)/2]}, D: a.D}} {
			left, right := clones(listOf(a)), clones(listOf(b))
			want := tell(rat.Rat{N: left[0], D: left[1]}, rat.Rat{N: right[0], D: right[1]})
			if !tell(a, b).is(want) {
				t.Fatal(a, b)
			}
		}
	}
}

// R5: nil and empty mean the same, as N and as D, with Neg and without.
func TestNilAndEmpty(t *testing.T) {
	for _, a := range mixed() {
		for _, isNeg := range []bool{false, true} {
			none, empty := zint.Int{Neg: isNeg}, zint.Int{Neg: isNeg, A: nat.Nat{}}
			for _, c := range [][2]rat.Rat{
				{{N: none, D: a.D}, {N: empty, D: a.D}}, {{N: a.N, D: none}, {N: a.N, D: empty}}, {{N: none, D: none}, {N: empty, D: empty}}, {{}, {N: empty, D: empty}},
			} {
				if !tell(a, c[0]).is(tell(a, c[1])) || !tell(c[0], a).is(tell(c[1], a)) {
					t.Fatal(a, c)
				}
			}
		}
	}
}

// A fraction that isn't normal is the same as its normal one, in all calls; what is
// answered is normal.
func TestNormalOrNot(t *testing.T) {
	source := rand.New(rand.NewSource(78))
	list := mixed()
	for range 40 {
		list = append(list, drawnAny(source, 3))
	}
	for i, a := range list {
		for k, b := range list {
			answers := tell(a, b)
			first, second := forms(a), forms(b)
			if !tell(first[(i+3*k)%len(first)], second[(5*i+k)%len(second)]).is(answers) || !tell(normalOf(t, a), normalOf(t, b)).is(answers) {
				t.Fatal("how it is written tells", a, b)
			}
			for at, answer := range answers.numbers {
				if !isNormalInt(answer) {
					t.Fatal("not normal", a, b, at)
				}
			}
		}
	}
}
