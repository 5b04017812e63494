package nat

import (
	"slices"
	"testing"
)

// answers tells what each call that answers naturals says of a, b and n.
func answers(a, b Nat, n int) []Nat {
	difference, _ := Sub(a, b)
	up, _ := Shl(a, n)
	down, _ := Shr(a, n)
	return []Nat{Norm(a), Add(a, b), difference, Mul(a, b), MulAdd(a, 3, 4), MulAdd(a, 0, 0), MulAdd(a, 1, 0), up, down}
}

func clones(list []Nat) []Nat {
	out := make([]Nat, len(list))
	for i, a := range list {
		out[i] = slices.Clone(a)
	}
	return out
}

func sameLists(a, b []Nat) bool {
	return slices.EqualFunc(a, b, func(x, y Nat) bool { return slices.Equal(x, y) })
}

// R5, R7: arguments and their spare room stay, answers are new memory, and
// come again.
func TestArgumentsStay(t *testing.T) {
	for _, a := range samples() {
		for _, b := range samples() {
			for _, n := range []int{0, 1, 64} {
				checkStays(t, a, b, n)
			}
		}
	}
}

func checkStays(t *testing.T, a, b Nat, n int) {
	t.Helper()
	left, right := watch(a), watch(b)
	first := answers(left.arg, right.arg, n)
	tellAll(left.arg, right.arg, n)
	kept := clones(first)
	for i, answer := range first {
		spoil(answer)
		if !left.unchanged() || !right.unchanged() {
			t.Fatal("an argument is changed", a, b, n, i)
		}
		for j := i + 1; j < len(first); j++ {
			if !slices.Equal(first[j], kept[j]) {
				t.Fatal("two answers share memory", a, b, n, i, j)
			}
		}
	}
	if !sameLists(answers(left.arg, right.arg, n), kept) {
		t.Fatal("another answer", a, b, n)
	}
}

// tellAll makes the calls that answer no naturals.
func tellAll(a, b Nat, n int) {
	Word(a)
	Cmp(a, b)
	Bits(a)
	Bit(a, n)
	Zeros(a)
}

// R5: one list handed in twice is two arguments.
func TestOneArgumentTwice(t *testing.T) {
	for _, a := range samples() {
		twin := slices.Clone(a)
		if !sameLists(answers(a, a, 5), answers(a, twin, 5)) || Cmp(a, a) != 0 {
			t.Error(a)
		}
		if !slices.Equal(a, twin) {
			t.Error("changed", a)
		}
	}
}

// R5: nil and empty mean the same.
func TestNilAndEmpty(t *testing.T) {
	for _, a := range samples() {
		if !sameLists(answers(a, nil, 5), answers(a, Nat{}, 5)) || !sameLists(answers(nil, a, 5), answers(Nat{}, a, 5)) {
			t.Error(a)
		}
		if Cmp(a, nil) != Cmp(a, Nat{}) {
			t.Error(a)
		}
	}
}

// All naturals that are answered are normal.
func TestAnswersAreNormal(t *testing.T) {
	for _, a := range samples() {
		for _, b := range samples() {
			for _, n := range append([]int{-1}, shifts...) {
				for i, answer := range answers(a, b, n) {
					if !isNormal(answer) {
						t.Fatal(a, b, n, i, answer)
					}
				}
			}
		}
	}
}
