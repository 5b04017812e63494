package dec

import (
	"math/rand"
	"slices"
	"strings"
	"testing"

	"quincunx/api"
	"quincunx/nat"
)

// wrong holds texts that are no numerals.
func wrong() []string {
	list := []string{
		"", "00", "01", "007", "000", "0 ", " 0", "-0", "+0", "-1", "+1", "--1", "1-", "1+1", "1-1",
		" ", " 1", "1 ", "1 1", "\t1", "1\n", "1\r\n", "1\x00", "\x00", "a", "a1", "1a", "1a1", "0x1", "0b1",
		"1_000", "1,000", "1.0", "1.", ".1", "1e5", "1E5", "1/2", "Inf", "NaN", "/", ":", "0:", "1/",
		"\u0661", "1\u0661", "\uff11", "1\uff11", "\u00b2", "1\u00a0", "\xff", "1\xff1", "\xb1",
	}
	for _, n := range []int{17, 18, 19, 36, 37, 1000} {
		digits := strings.Repeat("7", n)
		list = append(list, "0"+digits, "-"+digits, "+"+digits, " "+digits, digits+" ", digits+"\n", digits+"x", digits+"x"+digits)
	}
	return list
}

// tooLong holds digits, more than MaxDigits.
func tooLong() []string {
	const n = api.MaxDigits + 1
	return []string{
		strings.Repeat("1", n), "1" + strings.Repeat("0", n-1), strings.Repeat("9", n),
		strings.Repeat("0", n), "0" + strings.Repeat("3", n-1), strings.Repeat("5", 2*n), strings.Repeat("8", 1000000),
	}
}

// withByte holds texts of digits, one of which is x: the first one, one in the
// middle, or the last one, of so many that they are cut, or not.
func withByte(x byte) []string {
	list := []string{string([]byte{x})}
	for _, n := range []int{1, 9, 30, 100} {
		half := strings.Repeat("4", n)
		list = append(list, string([]byte{x})+half, half+string([]byte{x})+half, half+string([]byte{x}))
	}
	return list
}

func checkNone(t *testing.T, s string) {
	t.Helper()
	if a, ok := Parse(s); ok || len(a) != 0 {
		t.Errorf("Parse of %.60q: %d words, %v", s, len(a), ok)
	}
}

// P4.1: Parse of numerals that are easily told, each normal.
func TestParse(t *testing.T) {
	for s, want := range map[string]nat.Nat{
		"0": nil, "7": {7}, "9": {9}, "10": {10}, "18446744073709551615": {top}, "18446744073709551616": {0, 1},
		"18446744073709551617": {1, 1}, "1000000000000000000": {1e18}, "999999999999999999": {1e18 - 1},
		"340282366920938463463374607431768211455": {top, top}, "340282366920938463463374607431768211456": {0, 0, 1},
	} {
		if a, ok := Parse(s); !ok || !slices.Equal(a, want) {
			t.Error(s, a, ok)
		}
	}
}

// P4.1: Parse of noughts, nines and others, of each length at which they are cut
// otherwise.
func TestParseOfEachLength(t *testing.T) {
	source := rand.New(rand.NewSource(6))
	for n := 1; n < 400; n++ {
		checkNumeral(t, strings.Repeat("9", n))
		checkNumeral(t, "1"+strings.Repeat("0", n))
		checkNumeral(t, "1"+strings.Repeat("0", n)+"1")
		for range 5 {
			checkNumeral(t, drawnDigits(source, n))
		}
	}
	for _, n := range cutLengths() {
		checkNumeral(t, strings.Repeat("9", n))
		checkNumeral(t, "1"+strings.Repeat("0", n-1))
		checkNumeral(t, drawnDigits(source, n))
	}
}

// P4.1: Parse next to powers of 2, of 2^64 among them.
func TestParseNextToPowersOfTwo(t *testing.T) {
	for n := range 1000 {
		for _, a := range around(powerOf(2, n)) {
			checkNumeral(t, numberOf(a).Text(10))
		}
	}
}

// P4.1: MaxDigits digits are a numeral, one more are none.
func TestParseOfMaxDigits(t *testing.T) {
	checkNumeral(t, strings.Repeat("1", api.MaxDigits))
	checkNumeral(t, "1"+strings.Repeat("0", api.MaxDigits-1))
	checkNumeral(t, strings.Repeat("9", api.MaxDigits))
	for _, s := range tooLong() {
		checkNone(t, s)
	}
}

// P4.1: of no numerals there is nothing.
func TestParseOfWrongTexts(t *testing.T) {
	for _, s := range wrong() {
		checkNone(t, s)
	}
}

// P4.1: of all bytes just the ten digits may stand in a numeral, and 0 not ahead.
func TestParseOfEachByte(t *testing.T) {
	for x := range 256 {
		for _, s := range withByte(byte(x)) {
			if x < '0' || x > '9' || s[0] == '0' && len(s) > 1 {
				checkNone(t, s)
			} else {
				checkNumeral(t, s)
			}
		}
	}
}
