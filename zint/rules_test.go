package zint

import (
	"slices"
	"testing"

	"quincunx/nat"
)

// told is all that the calls answer of a and b: the whole numbers, and the rest.
type told struct {
	numbers []Int
	oks     [7]bool
	small   int64
	counts  [3]int
	same    bool
	text    string
}

func tell(a, b Int) told {
	var out told
	small, smallOk := Small(a)
	power, powerOk := Pow(a, 3)
	q, r, quoOk := Quo(a, b)
	f, above, floorOk := Floor(a, b)
	e, rest, euclidOk := Euclid(a, b)
	round, roundOk := Round(a, b)
	exact, exactOk := Exact(a, b)
	g, x, y := Xgcd(a, b)
	out.numbers = []Int{
		From(a.A, a.Neg), Neg(a), Abs(a), Add(a, b), Sub(a, b), Mul(a, b), power, q, r, f, above, e, rest, round, exact, Gcd(a, b), g, x, y,
	}
	out.oks = [7]bool{smallOk, powerOk, quoOk, floorOk, euclidOk, roundOk, exactOk}
	out.small, out.counts = small, [3]int{Sign(a), Cmp(a, b), Bits(a)}
	out.same, out.text = Same(a, b), Print(a)
	return out
}

func sameLists(a, b []Int) bool {
	return slices.EqualFunc(a, b, func(x, y Int) bool { return x.Neg == y.Neg && slices.Equal(x.A, y.A) })
}

func (a told) is(b told) bool {
	return sameLists(a.numbers, b.numbers) && a.oks == b.oks && a.small == b.small &&
		a.counts == b.counts && a.same == b.same && a.text == b.text
}

func clone(a Int) Int {
	return Int{Neg: a.Neg, A: slices.Clone(a.A)}
}

func clones(list []Int) []Int {
	out := make([]Int, len(list))
	for i, a := range list {
		out[i] = clone(a)
	}
	return out
}

// guarded is a's copy, whose natural has three words of spare room that aren't 0:
// with the whole of it.
func guarded(a Int) Int {
	return Int{Neg: a.Neg, A: append(slices.Clone(a.A), 0xabcdef, 0xabcdef, 0xabcdef)}
}

// R5, R7: arguments and their spare room stay, answers are new memory, that no two
// of them share, and come again.
func TestArgumentsStay(t *testing.T) {
	for _, a := range mixed() {
		for _, b := range mixed() {
			checkStays(t, a, b)
		}
	}
}

func checkStays(t *testing.T, a, b Int) {
	t.Helper()
	wholes := []Int{guarded(a), guarded(b)}
	were := clones(wholes)
	left := Int{Neg: a.Neg, A: wholes[0].A[:len(a.A)]}
	right := Int{Neg: b.Neg, A: wholes[1].A[:len(b.A)]}
	first := tell(left, right)
	kept := first
	kept.numbers = clones(first.numbers)
	for i, answer := range first.numbers {
		words := answer.A[:cap(answer.A)]
		for k := range words {
			words[k] = 0x5555
		}
		if !sameLists(wholes, were) {
			t.Fatal("an argument is changed", a, b, i)
		}
		if !sameLists(first.numbers[i+1:], kept.numbers[i+1:]) {
			t.Fatal("two answers share memory", a, b, i)
		}
	}
	if !tell(left, right).is(kept) {
		t.Fatal("another answer", a, b)
	}
}

// R5, R7: what Of and Parse answer is new memory, and comes again.
func TestMadeNumbersAreNew(t *testing.T) {
	for _, x := range []int64{0, 1, -1, 12345, -1 << 63} {
		for _, call := range []func() Int{
			func() Int { return Of(x) },
			func() Int { a, _ := Parse(Print(Of(x))); return a },
		} {
			first := call()
			kept := clone(first)
			words := first.A[:cap(first.A)]
			for i := range words {
				words[i] = 0x5555
			}
			alike(t, "called again", call(), kept)
		}
	}
}

// R5: one number handed in twice is two arguments, and so are those that share
// words.
func TestArgumentsThatShare(t *testing.T) {
	for _, a := range mixed() {
		for _, b := range []Int{a, {Neg: !a.Neg, A: a.A}, {A: a.A[:len(a.A)/2]}, {Neg: true, A: a.A[len(a.A)/2:]}} {
			if !tell(a, b).is(tell(clone(a), clone(b))) {
				t.Error(a, b)
			}
		}
	}
}

// R5: nil and empty mean the same.
func TestNilAndEmpty(t *testing.T) {
	for _, a := range mixed() {
		for _, isNeg := range []bool{false, true} {
			none, empty := Int{Neg: isNeg}, Int{Neg: isNeg, A: nat.Nat{}}
			if !tell(a, none).is(tell(a, empty)) || !tell(none, a).is(tell(empty, a)) {
				t.Error(a)
			}
		}
	}
}

// A whole number that isn't normal is the same as its normal one; what is
// answered is normal.
func TestNormalOrNot(t *testing.T) {
	for _, a := range mixed() {
		for _, b := range mixed() {
			answers := tell(a, b)
			normal := tell(From(a.A, a.Neg), From(b.A, b.Neg))
			if !normal.is(answers) || !tell(longer(a, 3), longer(b, 50)).is(answers) {
				t.Fatal("noughts behind tell", a, b)
			}
			for i, answer := range answers.numbers {
				if !isNormal(answer) {
					t.Fatal("not normal", a, b, i)
				}
			}
		}
	}
}
