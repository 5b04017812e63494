package nat

import (
	"slices"
	"testing"
)

// P1.1: Of.
func TestOf(t *testing.T) {
	if a := Of(0); len(a) != 0 {
		t.Error(a)
	}
	for _, x := range wordSamples()[1:] {
		if a := Of(x); !slices.Equal(a, Nat{x}) {
			t.Error(x, a)
		}
	}
}

// P1.1: Norm.
func TestNorm(t *testing.T) {
	for _, a := range samples() {
		expect(t, "Norm", Norm(a), valueOf(a))
	}
	if a := Norm(Nat{5, 0, 7, 0, 0}); !slices.Equal(a, Nat{5, 0, 7}) {
		t.Error(a)
	}
	if len(Norm(nil)) != 0 || len(Norm(Nat{})) != 0 || len(Norm(Nat{0, 0})) != 0 {
		t.Error("Norm of 0")
	}
}

// P1.1: Word.
func TestWord(t *testing.T) {
	for _, a := range samples() {
		x, ok := Word(a)
		want := valueOf(a)
		if ok != want.IsUint64() || ok && x != want.Uint64() || !ok && x != 0 {
			t.Error(a, x, ok)
		}
	}
	if x, ok := Word(Nat{top, 0, 0}); !ok || x != top {
		t.Error(x, ok)
	}
	if x, ok := Word(Nat{7, 1}); ok || x != 0 {
		t.Error(x, ok)
	}
	if x, ok := Word(nil); !ok || x != 0 {
		t.Error(x, ok)
	}
}

// P1.1: Cmp; P1.3: order is one of all.
func TestCmp(t *testing.T) {
	for _, a := range samples() {
		for _, b := range samples() {
			if got, want := Cmp(a, b), valueOf(a).Cmp(valueOf(b)); got != want {
				t.Error(a, b, got)
			}
		}
	}
	if Cmp(Nat{0, 1}, Nat{top}) != 1 || Cmp(Nat{top}, Nat{0, 1}) != -1 || Cmp(Nat{1, 2}, Nat{2, 1}) != 1 {
		t.Error("the greatest word tells")
	}
	if Cmp(nil, Nat{0, 0}) != 0 || Cmp(Nat{5, 0, 0}, Nat{5}) != 0 || Cmp(nil, Nat{1}) != -1 {
		t.Error("naturals that aren't normal")
	}
}
