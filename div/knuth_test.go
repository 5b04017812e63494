package div

import (
	"math/big"
	"math/bits"
	"slices"
	"testing"

	"quincunx/nat"
)

// part is what takeOut is given: rest without its least word is less than b,
// and b's greatest bit is set.
type part struct {
	rest, b nat.Nat
}

// edges holds words at which guesses are too great.
func edges() []uint64 {
	return []uint64{0, 1, 2, 1<<63 - 1, 1 << 63, 1<<63 + 1, top - 1, top}
}

// strings holds all lists of n such words.
func strings(n int) []nat.Nat {
	list := []nat.Nat{nil}
	for range n {
		var next []nat.Nat
		for _, a := range list {
			for _, w := range edges() {
				next = append(next, append(slices.Clone(a), w))
			}
		}
		list = next
	}
	return list
}

// parts holds all parts of such words with a divisor of two words, and some
// with one of three.
func parts() []part {
	var list []part
	add := func(rest, b nat.Nat) {
		if b[len(b)-1]>>63 == 1 && nat.Cmp(rest[1:], b) < 0 {
			list = append(list, part{rest, b})
		}
	}
	for _, rest := range strings(3) {
		for _, b := range strings(2) {
			add(rest, b)
		}
	}
	for _, rest := range strings(4) {
		for _, high := range strings(2) {
			for _, low := range []uint64{1, 4, top} {
				add(rest, append(nat.Nat{low}, high...))
			}
		}
	}
	return list
}

// P3.1, Ways: a guess is never too little, at most one too much, and put right.
func TestGuesses(t *testing.T) {
	wrong := map[uint64]int{}
	for _, p := range parts() {
		times, left := new(big.Int).QuoRem(valueOf(p.rest), valueOf(p.b), new(big.Int))
		off := guess(p.rest, p.b) - times.Uint64()
		if wrong[off]++; off > 1 {
			t.Fatal(p, off)
		}
		rest := slices.Clone(p.rest)
		if got := takeOut(rest, p.b); !times.IsUint64() || got != times.Uint64() || valueOf(rest).Cmp(left) != 0 {
			t.Fatal(p, got, rest)
		}
	}
	if wrong[0] == 0 || wrong[1] == 0 {
		t.Error("guesses that are right, and too great, must be among them:", wrong)
	}
}

// P3.1, Ways: the parts above hold all that a guess is put right by: the
// greatest word's quotient is too great by 0, 1 and 2, or more than a word.
func TestGuessesAreHard(t *testing.T) {
	wrong := map[uint64]int{}
	more := 0
	for _, p := range parts() {
		n := len(p.b)
		if p.rest[n] == p.b[n-1] {
			more++
			continue
		}
		first, _ := bits.Div64(p.rest[n], p.rest[n-1], p.b[n-1])
		wrong[first-guess(p.rest, p.b)]++
	}
	if wrong[0] == 0 || wrong[1] == 0 || wrong[2] == 0 || more == 0 {
		t.Error(wrong, more)
	}
}

// P3.1: whole numbers of such words.
func TestDivOfHardWords(t *testing.T) {
	for i, a := range strings(4) {
		for k, b := range strings(3) {
			if (i+k)%7 == 0 {
				checkDiv(t, a, b)
			}
		}
	}
}

// P3.1: divisions in which a product is taken out that is too great.
func TestDivPutsBack(t *testing.T) {
	for _, p := range []part{
		{nat.Nat{3, 0, 1 << 63}, nat.Nat{1, 0, 1 << 61}},
		{nat.Nat{0, 0, 1 << 63, 1<<63 - 1}, nat.Nat{1, 0, 1 << 63}},
		{nat.Nat{0, top - 1, 1 << 63}, nat.Nat{top, 1 << 63}},
		{nat.Nat{12, 0, 0, 2}, nat.Nat{4, 0, 1 << 63}},
		{nat.Nat{0, 0, 0, 0, 1 << 63, 1<<63 - 1}, nat.Nat{1, 0, 0, 0, 1 << 63}},
	} {
		checkDiv(t, p.rest, p.b)
	}
	rest, b := nat.Nat{12, 0, 0, 2}, nat.Nat{4, 0, 1 << 63}
	if guess(rest, b) != 4 || takeOut(rest, b) != 3 || !slices.Equal(rest, nat.Nat{0, 0, 1 << 63, 0}) {
		t.Error(rest)
	}
}
