package dec

import (
	"math/big"
	"slices"
	"strings"
	"testing"
)

// Ways: the powers are 10^18, and the square of the one ahead of each.
func TestPowers(t *testing.T) {
	if list := powers(0); len(list) != 0 {
		t.Error(list)
	}
	list := powers(12)
	if len(list) != 12 {
		t.Fatal(len(list))
	}
	for i, power := range list {
		if !slices.Equal(power, natOf(powerOf(10, unitDigits<<i))) {
			t.Error(i)
		}
	}
}

// Ways: a number is below the power of 10 that its digits' room is made for: the
// unit is above 2^unitBits.
func TestUnits(t *testing.T) {
	if powerOf(10, unitDigits).Cmp(big.NewInt(unit)) != 0 || powerOf(2, unitBits).Cmp(big.NewInt(unit)) >= 0 {
		t.Error(unitDigits, unitBits, unit)
	}
}

func TestDoublings(t *testing.T) {
	for _, c := range [][3]int{
		{18, 0, 0}, {18, 1, 0}, {18, 18, 0}, {18, 19, 1}, {18, 36, 1}, {18, 37, 2}, {18, 72, 2}, {18, 73, 3},
		{18, 18432, 10}, {18, 18433, 11}, {18, 20000, 11}, {59, 59, 0}, {59, 60, 1}, {59, 118, 1}, {59, 119, 2},
	} {
		if n := doublings(c[0], c[1]); n != c[2] {
			t.Error(c, n)
		}
	}
}

// Ways: what is written fills its room with noughts ahead, and what is read may
// be shorter than the cuts go.
func TestWriteAndRead(t *testing.T) {
	for n := range 6 {
		cuts, room := powers(n), unitDigits<<n
		for _, s := range []string{"0", "5", "10", strings.Repeat("8", unitDigits), strings.Repeat("9", room), "1" + strings.Repeat("0", room-1)} {
			a := read(s, cuts)
			if numberOf(a).Text(10) != s {
				t.Error(n, s, a)
			}
			digits := []byte(strings.Repeat("x", room))
			write(digits, a, cuts)
			if string(digits) != strings.Repeat("0", room-len(s))+s {
				t.Error(n, s, string(digits))
			}
		}
	}
}
