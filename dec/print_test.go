package dec

import (
	"math/big"
	"math/rand"
	"strings"
	"testing"

	"quincunx/api"
	"quincunx/nat"
)

// P4.1: Print and Len of 0, however it is written.
func TestPrintOfNought(t *testing.T) {
	for _, a := range append(noughts(), make(nat.Nat, 1000)) {
		if Print(a) != "0" || Len(a) != 1 {
			t.Error(a, Print(a), Len(a))
		}
	}
}

// P4.1: Print and Len of numbers that are easily told.
func TestPrintOfPlainNumbers(t *testing.T) {
	for want, a := range map[string]nat.Nat{
		"7": {7}, "10": {10}, "1000": {1000, 0}, "18446744073709551615": {top}, "18446744073709551616": {0, 1},
		"18446744073709551617": {1, 1}, "340282366920938463463374607431768211455": {top, top, 0},
		"1000000000000000000": {1e18}, "999999999999999999": {1e18 - 1}, "1000000000000000001": {1e18 + 1},
	} {
		if got := Print(a); got != want || Len(a) != len(want) {
			t.Error(want, got, Len(a))
		}
	}
}

// P4.1: Print and Len of samples, normal and not.
func TestPrintOfSamples(t *testing.T) {
	for x := range uint64(2000) {
		checkDigits(t, nat.Of(x))
	}
	for _, a := range samples() {
		checkDigits(t, a)
		checkDigits(t, longer(a, 1))
		checkDigits(t, longer(a, 50))
	}
}

// P4.1: Print and Len next to powers of 10, of 10^18 among them, and to their
// multiples by a digit.
func TestPrintNextToPowersOfTen(t *testing.T) {
	for n := range 700 {
		power := powerOf(10, n)
		for _, a := range around(power) {
			checkDigits(t, a)
		}
		for _, a := range around(new(big.Int).Mul(power, big.NewInt(int64(2+n%8)))) {
			checkDigits(t, a)
		}
	}
}

// P4.1: Print and Len next to powers of 2, of 2^64 among them, and of those whose
// numbers of bits are cut once more.
func TestPrintNextToPowersOfTwo(t *testing.T) {
	for n := range 1000 {
		for _, a := range around(powerOf(2, n)) {
			checkDigits(t, a)
		}
	}
	for size := unitBits; size < 100000; size *= 2 {
		for n := size - 2; n <= size+2; n++ {
			for _, a := range around(powerOf(2, n)) {
				checkDigits(t, a)
			}
		}
	}
}

// P4.1: Print and Len of numbers with noughts in the middle, and at the end,
// where they are cut.
func TestPrintKeepsNoughts(t *testing.T) {
	for n := 1; n <= 64; n *= 2 {
		power := powerOf(10, n*unitDigits)
		for _, high := range around(power) {
			for _, low := range append(around(big.NewInt(1)), around(powerOf(10, n*unitDigits/2))...) {
				sum := new(big.Int).Mul(numberOf(high), power)
				sum.Add(sum, numberOf(low))
				checkDigits(t, natOf(sum))
			}
		}
	}
	a := natOf(new(big.Int).Add(powerOf(10, 100), big.NewInt(5)))
	if got := Print(a); got != "1"+strings.Repeat("0", 99)+"5" || Len(a) != 101 {
		t.Error(got, Len(a))
	}
}

// P4.1: Print and Len of each number of words, cut several times.
func TestPrintOfManyWords(t *testing.T) {
	source := rand.New(rand.NewSource(5))
	for n := 1; n < 260; n++ {
		checkDigits(t, drawn(source, n))
	}
	for _, n := range []int{300, 555, 1000, 2047, 2048, 2049, 5000} {
		checkDigits(t, drawn(source, n))
		checkDigits(t, longer(drawn(source, n), n))
	}
}

// P4.1: MaxDigits is no bound of Print and Len.
func TestPrintOfVeryManyDigits(t *testing.T) {
	for _, n := range []int{api.MaxDigits - 1, api.MaxDigits, api.MaxDigits + 1, 3 * api.MaxDigits} {
		for _, a := range around(powerOf(10, n)) {
			checkDigits(t, a)
		}
	}
	for _, a := range around(powerOf(2, api.MaxBits)) {
		checkDigits(t, a)
	}
	a := natOf(powerOf(10, 18*1<<14))
	if got := Print(a); got != "1"+strings.Repeat("0", 18*1<<14) || Len(a) != len(got) {
		t.Error(len(got), Len(a))
	}
}
