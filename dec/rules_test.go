package dec

import (
	"slices"
	"strings"
	"testing"

	"quincunx/nat"
)

// guarded is a's copy with three words of spare room that aren't 0: the whole
// of it.
func guarded(a nat.Nat) nat.Nat {
	return append(slices.Clone(a), 0xabcdef, 0xabcdef, 0xabcdef)
}

// R5, R7: arguments and their spare room stay, and answers come again.
func TestArgumentsStay(t *testing.T) {
	for _, a := range samples() {
		whole := guarded(a)
		was := slices.Clone(whole)
		arg := whole[:len(a)]
		s, n := Print(arg), Len(arg)
		if !slices.Equal(whole, was) {
			t.Fatal("an argument is changed", a)
		}
		if Print(arg) != s || Len(arg) != n {
			t.Fatal("another answer", a)
		}
	}
}

// R5, R7: what is read is new memory, and comes again.
func TestAnswersAreNew(t *testing.T) {
	list := []string{"0", "7", "1000000000000000000", "1" + strings.Repeat("0", 36), "1" + strings.Repeat("0", 72), strings.Repeat("9", 500)}
	for _, a := range samples() {
		list = append(list, Print(a))
	}
	for _, s := range list {
		first, _ := Parse(s)
		second, _ := Parse(s)
		kept := slices.Clone(first)
		if !slices.Equal(first, second) {
			t.Fatal("another answer", s)
		}
		first = first[:cap(first)]
		for i := range first {
			first[i] = 0x5555
		}
		third, _ := Parse(s)
		if !slices.Equal(second, kept) || !slices.Equal(third, kept) {
			t.Fatal("two answers share memory", s)
		}
	}
}

// A natural that isn't normal is the same number as its normal one; what is
// answered is normal.
func TestNormalOrNot(t *testing.T) {
	for _, a := range samples() {
		for _, n := range []int{1, 2, 70} {
			if b := longer(a, n); Print(b) != Print(a) || Len(b) != Len(a) {
				t.Error(a, n)
			}
		}
		if b, ok := Parse(Print(a)); !ok || len(b) > 0 && b[len(b)-1] == 0 {
			t.Error(a, b, ok)
		}
	}
}

// R5: nil and empty mean the same.
func TestNilAndEmpty(t *testing.T) {
	if Print(nil) != Print(nat.Nat{}) || Len(nil) != Len(nat.Nat{}) {
		t.Error(Print(nil), Print(nat.Nat{}))
	}
}
