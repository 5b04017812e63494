package gfp_test

import (
	"math/big"
	"math/rand"
	"testing"

	"quincunx/gfp"
)

// checkTwo holds what is reckoned of two words against their whole numbers.
func checkTwo(t *testing.T, f gfp.Field, a, b uint64) {
	t.Helper()
	x, y := bigOf(a), bigOf(b)
	expect(t, "Norm", f, f.Norm(a), x)
	expect(t, "Neg", f, f.Neg(a), new(big.Int).Neg(x))
	expect(t, "Add", f, f.Add(a, b), new(big.Int).Add(x, y))
	expect(t, "Sub", f, f.Sub(a, b), new(big.Int).Sub(x, y))
	expect(t, "Mul", f, f.Mul(a, b), new(big.Int).Mul(x, y))
}

// P8.1: answers that are easily reckoned.
func TestArithmetic(t *testing.T) {
	f, last := fieldOf(t, 7), fieldOf(t, greatest)
	for _, c := range [][2]uint64{
		{f.Add(5, 4), 2}, {f.Add(3, 4), 0}, {f.Add(3, 3), 6}, {f.Add(6, 6), 5}, {f.Add(7, 14), 0}, {f.Add(0, 0), 0},
		{f.Sub(2, 5), 4}, {f.Sub(5, 2), 3}, {f.Sub(0, 6), 1}, {f.Sub(6, 0), 6}, {f.Sub(4, 4), 0}, {f.Sub(0, 0), 0}, {f.Sub(1, 13), 2},
		{f.Mul(3, 5), 1}, {f.Mul(6, 6), 1}, {f.Mul(0, 6), 0}, {f.Mul(10, 9), 6},
		{f.Neg(0), 0}, {f.Neg(3), 4}, {f.Neg(6), 1}, {f.Neg(7), 0}, {f.Neg(700), 0}, {f.Neg(701), 6}, {f.Norm(700), 0}, {f.Norm(6), 6}, {f.Norm(7), 0},
		{last.Add(greatest-1, greatest-1), greatest - 2}, {last.Add(greatest-1, 1), 0}, {last.Add(top, top), 6}, {last.Sub(0, greatest-1), 1},
		{last.Mul(greatest-1, greatest-1), 1}, {last.Mul(greatest-1, 2), greatest - 2}, {last.Mul(top, top), 9}, {last.Norm(top), 3}, {last.Neg(top), greatest - 3},
	} {
		if c[0] != c[1] {
			t.Error(c)
		}
	}
}

// P8.1: all pairs of small words by small primes, elements and more.
func TestArithmeticOfSmallWords(t *testing.T) {
	for p := uint64(2); p < 24; p++ {
		if !hasNoDivisor(p) {
			continue
		}
		f := fieldOf(t, p)
		for a := range 3*p + 2 {
			for b := range 3*p + 2 {
				checkTwo(t, f, a, b)
			}
		}
	}
}

// P8.1: the least and the greatest elements, and words that are none: all pairs.
func TestArithmeticOfWords(t *testing.T) {
	for _, p := range primes() {
		f := fieldOf(t, p)
		for _, a := range words(p) {
			for _, b := range words(p) {
				checkTwo(t, f, a, b)
			}
		}
	}
}

// P8.1: drawn words, by drawn primes too.
func TestArithmeticOfDrawnWords(t *testing.T) {
	source := rand.New(rand.NewSource(84))
	list := primes()
	for len(list) < 60 {
		if p := uint64(source.Intn(1 << 31)); hasNoDivisor(p) {
			list = append(list, p)
		}
	}
	for _, p := range list {
		f := fieldOf(t, p)
		for range 200 {
			checkTwo(t, f, drawn(source, p), drawn(source, p))
		}
	}
}
