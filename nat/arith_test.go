package nat

import (
	"math/big"
	"math/rand"
	"slices"
	"testing"
)

// P1.1: Add.
func TestAdd(t *testing.T) {
	for _, a := range samples() {
		for _, b := range samples() {
			expect(t, "Add", Add(a, b), new(big.Int).Add(valueOf(a), valueOf(b)))
		}
	}
	if a := Add(Nat{top}, Nat{1}); !slices.Equal(a, Nat{0, 1}) {
		t.Error(a)
	}
	if a := Add(Nat{top, top, top, 0}, Nat{1, 0}); !slices.Equal(a, Nat{0, 0, 0, 1}) {
		t.Error("a carry through all words:", a)
	}
	if a := Add(nil, Nat{0, 0}); len(a) != 0 {
		t.Error(a)
	}
}

// P1.1: Sub, differences below 0 too.
func TestSub(t *testing.T) {
	for _, a := range samples() {
		for _, b := range samples() {
			got, ok := Sub(a, b)
			want := new(big.Int).Sub(valueOf(a), valueOf(b))
			if ok != (want.Sign() >= 0) {
				t.Fatal(a, b, ok)
			}
			if !ok && len(got) != 0 {
				t.Fatal(a, b, got)
			}
			if ok {
				expect(t, "Sub", got, want)
			}
		}
	}
	if a, ok := Sub(Nat{0, 0, 1}, Nat{1}); !ok || !slices.Equal(a, Nat{top, top}) {
		t.Error("a borrow through all words:", a, ok)
	}
	if a, ok := Sub(Nat{5, 0, 0}, Nat{5}); !ok || len(a) != 0 {
		t.Error(a, ok)
	}
	if a, ok := Sub(Nat{4, 7}, Nat{5, 7}); ok || len(a) != 0 {
		t.Error("as many words, and below 0:", a, ok)
	}
	if a, ok := Sub(nil, Nat{0, 0, 0}); !ok || len(a) != 0 {
		t.Error(a, ok)
	}
	if a, ok := Sub(nil, Nat{1}); ok || len(a) != 0 {
		t.Error(a, ok)
	}
}

// P1.1: Mul.
func TestMul(t *testing.T) {
	for _, a := range samples() {
		for _, b := range samples() {
			expect(t, "Mul", Mul(a, b), new(big.Int).Mul(valueOf(a), valueOf(b)))
		}
	}
	if a := Mul(Nat{top, top, 0}, Nat{top, top}); !slices.Equal(a, Nat{1, 0, top - 1, top}) {
		t.Error(a)
	}
	if len(Mul(nil, Nat{1, 2})) != 0 || len(Mul(Nat{1, 2}, Nat{0, 0, 0, 0})) != 0 {
		t.Error("a product with 0")
	}
}

// P1.1: Mul of great numbers.
func TestMulOfManyWords(t *testing.T) {
	source := rand.New(rand.NewSource(2))
	for _, size := range [][2]int{{300, 300}, {1, 400}, {257, 33}, {64, 1000}} {
		a, b := make(Nat, size[0]), make(Nat, size[1])
		for _, l := range []Nat{a, b} {
			for i := range l {
				l[i] = randomWord(source)
			}
		}
		expect(t, "Mul", Mul(a, b), new(big.Int).Mul(valueOf(a), valueOf(b)))
	}
}

// P1.1: MulAdd.
func TestMulAdd(t *testing.T) {
	for _, a := range samples() {
		for _, x := range wordSamples() {
			for _, y := range wordSamples() {
				want := new(big.Int).Mul(valueOf(a), new(big.Int).SetUint64(x))
				want.Add(want, new(big.Int).SetUint64(y))
				expect(t, "MulAdd", MulAdd(a, x, y), want)
			}
		}
	}
	if a := MulAdd(Nat{top}, top, top); !slices.Equal(a, Nat{0, top}) {
		t.Error(a)
	}
	if a := MulAdd(Nat{1, 2, 3}, 0, 9); !slices.Equal(a, Nat{9}) {
		t.Error(a)
	}
	if a := MulAdd(nil, 7, 0); len(a) != 0 {
		t.Error(a)
	}
}
