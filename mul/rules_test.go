package mul

import (
	"slices"
	"testing"

	"quincunx/nat"
)

// guarded is a's copy with three words of spare room that aren't 0: the whole
// of it.
func guarded(a nat.Nat) nat.Nat {
	return append(slices.Clone(a), 0xabcdef, 0xabcdef, 0xabcdef)
}

// answers tells what each call says of a and b, or of both in one list.
func answers(a, b nat.Nat) []nat.Nat {
	nought, _ := Pow(a, 0)
	first, _ := Pow(a, 1)
	fifth, _ := Pow(b, 5)
	below, _ := Pow(b, -1)
	return []nat.Nat{
		Mul(a, b), Mul(a, nat.Nat{1}), Square(a), nought, first, fifth, below,
		Product(nil), Product([]nat.Nat{a}), Product([]nat.Nat{b, a, {1}}), Product([]nat.Nat{a, b, a}),
	}
}

func sameLists(a, b []nat.Nat) bool {
	return slices.EqualFunc(a, b, func(x, y nat.Nat) bool { return slices.Equal(x, y) })
}

func clones(list []nat.Nat) []nat.Nat {
	out := make([]nat.Nat, len(list))
	for i, a := range list {
		out[i] = slices.Clone(a)
	}
	return out
}

// spoil overwrites an answer, and its spare room.
func spoil(a nat.Nat) {
	a = a[:cap(a)]
	for i := range a {
		a[i] = 0x5555
	}
}

// R5, R7: arguments and their spare room stay, answers are new memory, and
// come again.
func TestArgumentsStay(t *testing.T) {
	for _, a := range mixed() {
		for _, b := range mixed() {
			checkStays(t, a, b)
		}
	}
}

func checkStays(t *testing.T, a, b nat.Nat) {
	t.Helper()
	left, right := guarded(a), guarded(b)
	wholes := []nat.Nat{left, right}
	were := clones(wholes)
	left, right = left[:len(a)], right[:len(b)]
	first := answers(left, right)
	kept := clones(first)
	for i, answer := range first {
		spoil(answer)
		if !sameLists(wholes, were) {
			t.Fatal("an argument is changed", len(a), len(b), i)
		}
		if !sameLists(first[i+1:], kept[i+1:]) {
			t.Fatal("two answers share memory", len(a), len(b), i)
		}
	}
	if !sameLists(answers(left, right), kept) {
		t.Fatal("another answer", len(a), len(b))
	}
}

// R5: a list of factors stays as it is, with its spare room, in its order.
func TestListsStay(t *testing.T) {
	whole := mixed()
	slices.Reverse(whole)
	were := clones(whole)
	list := whole[:len(whole)-5]
	spoil(Product(list))
	if !sameLists(whole, were) {
		t.Error("a list is changed")
	}
}

// R5: one list handed in twice is two arguments.
func TestOneArgumentTwice(t *testing.T) {
	for _, a := range mixed() {
		twin := slices.Clone(a)
		if !sameLists(answers(a, a), answers(a, twin)) {
			t.Error(len(a))
		}
		same(t, "a", a, twin)
	}
}

// R5: nil and empty mean the same.
func TestNilAndEmpty(t *testing.T) {
	for _, a := range mixed() {
		if !sameLists(answers(a, nil), answers(a, nat.Nat{})) || !sameLists(answers(nil, a), answers(nat.Nat{}, a)) {
			t.Error(len(a))
		}
	}
}

// All naturals that are answered are normal.
func TestAnswersAreNormal(t *testing.T) {
	for _, a := range mixed() {
		for _, b := range mixed() {
			for i, answer := range answers(a, b) {
				if len(answer) > 0 && answer[len(answer)-1] == 0 {
					t.Fatal(len(a), len(b), i)
				}
			}
		}
	}
}
