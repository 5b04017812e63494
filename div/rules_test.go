package div

import (
	"slices"
	"testing"

	"quincunx/nat"
)

// told is all that the calls answer of a, b and x: the naturals, and the rest.
type told struct {
	naturals []nat.Nat
	left     uint64
	oks      [4]bool
}

func tell(a, b nat.Nat, x uint64) told {
	quotient, rest, ok := DivMod(a, b)
	left, leftOk := Mod(a, b)
	exact, exactOk := Exact(a, b)
	bySmall, word, smallOk := Small(a, x)
	root, more := Root(a)
	return told{
		[]nat.Nat{quotient, rest, left, exact, bySmall, Gcd(a, b), Lcm(a, b), root, more},
		word,
		[4]bool{ok, leftOk, exactOk, smallOk},
	}
}

func sameLists(a, b []nat.Nat) bool {
	return slices.EqualFunc(a, b, func(x, y nat.Nat) bool { return slices.Equal(x, y) })
}

func (a told) is(b told) bool {
	return sameLists(a.naturals, b.naturals) && a.left == b.left && a.oks == b.oks
}

func clones(list []nat.Nat) []nat.Nat {
	out := make([]nat.Nat, len(list))
	for i, a := range list {
		out[i] = slices.Clone(a)
	}
	return out
}

// guarded is a's copy with three words of spare room that aren't 0: the whole
// of it.
func guarded(a nat.Nat) nat.Nat {
	return append(slices.Clone(a), 0xabcdef, 0xabcdef, 0xabcdef)
}

// R5, R7: arguments and their spare room stay, answers are new memory, that no
// two of them share, and come again.
func TestArgumentsStay(t *testing.T) {
	for i, a := range mixed() {
		for k, b := range mixed() {
			checkStays(t, a, b, words()[(i+k)%len(words())])
		}
	}
}

func checkStays(t *testing.T, a, b nat.Nat, x uint64) {
	t.Helper()
	wholes := []nat.Nat{guarded(a), guarded(b)}
	were := clones(wholes)
	left, right := wholes[0][:len(a)], wholes[1][:len(b)]
	first := tell(left, right, x)
	kept := first
	kept.naturals = clones(first.naturals)
	for i, answer := range first.naturals {
		answer = answer[:cap(answer)]
		for k := range answer {
			answer[k] = 0x5555
		}
		if !sameLists(wholes, were) {
			t.Fatal("an argument is changed", a, b, i)
		}
		if !sameLists(first.naturals[i+1:], kept.naturals[i+1:]) {
			t.Fatal("two answers share memory", a, b, i)
		}
	}
	if !tell(left, right, x).is(kept) {
		t.Fatal("another answer", a, b)
	}
}

// R5: one list handed in twice is two arguments.
func TestOneArgumentTwice(t *testing.T) {
	for _, a := range mixed() {
		twin := slices.Clone(a)
		if !tell(a, a, 7).is(tell(a, twin, 7)) || !slices.Equal(a, twin) {
			t.Error(a)
		}
	}
}

// R5: lists that share words are arguments as well.
func TestArgumentsThatShare(t *testing.T) {
	for _, a := range mixed() {
		for _, b := range []nat.Nat{a[:len(a)/2], a[len(a)/2:]} {
			if !tell(a, b, 7).is(tell(slices.Clone(a), slices.Clone(b), 7)) {
				t.Error(a, b)
			}
		}
	}
}

// R5: nil and empty mean the same.
func TestNilAndEmpty(t *testing.T) {
	for _, a := range mixed() {
		if !tell(a, nil, 7).is(tell(a, nat.Nat{}, 7)) || !tell(nil, a, 7).is(tell(nat.Nat{}, a, 7)) {
			t.Error(a)
		}
	}
}

// A natural that isn't normal is the same number as its normal one; what is
// answered is normal, and beside false there is nothing (R3).
func TestNormalOrNot(t *testing.T) {
	for _, a := range mixed() {
		for _, b := range mixed() {
			answers := tell(a, b, 0)
			if !tell(nat.Norm(a), nat.Norm(b), 0).is(answers) || !tell(longer(a, 3), longer(b, 50), 0).is(answers) {
				t.Fatal("noughts behind tell", a, b)
			}
			for i, answer := range answers.naturals {
				if len(answer) > 0 && answer[len(answer)-1] == 0 {
					t.Fatal("not normal", a, b, i)
				}
			}
			checkNothing(t, answers)
		}
	}
}

func checkNothing(t *testing.T, answers told) {
	t.Helper()
	list := answers.naturals
	if !answers.oks[0] && len(list[0])+len(list[1]) > 0 ||
		!answers.oks[1] && len(list[2]) > 0 ||
		!answers.oks[2] && len(list[3]) > 0 ||
		answers.oks[3] || answers.left != 0 || len(list[4]) > 0 {
		t.Fatal("something beside false", answers)
	}
}
