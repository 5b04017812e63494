package dec

import (
	"math/big"
	"math/rand"
	"strings"
	"testing"

	"quincunx/api"
)

func checkSum(t *testing.T, s string) {
	t.Helper()
	number, isNumber := new(big.Int).SetString(s, 10)
	if !isNumber {
		t.Fatalf("no number: %.60q", s)
	}
	want := number.Mod(number, big.NewInt(1000000007)).Uint64()
	if got, ok := Sum(s); !ok || got != want {
		t.Fatalf("Sum of %d digits, %.60q: %d, %v, not %d", len(s), s, got, ok, want)
	}
}

func checkNoSum(t *testing.T, s string) {
	t.Helper()
	if x, ok := Sum(s); ok || x != 0 {
		t.Errorf("Sum of %.60q: %d, %v", s, x, ok)
	}
}

// P4.2: Sum of numbers that are easily reckoned.
func TestSum(t *testing.T) {
	for s, want := range map[string]uint64{
		"0": 0, "1": 1, "999999999": 999999999, "1000000000": 1000000000, "1000000006": 1000000006, "1000000007": 0,
		"1000000008": 1, "2000000013": 1000000006, "2000000014": 0, "2000000015": 1, "1000000014000000049": 0,
	} {
		if got, ok := Sum(s); !ok || got != want {
			t.Error(s, got, ok)
		}
	}
	for x := range 2000 {
		checkSum(t, big.NewInt(int64(x)).Text(10))
	}
}

// P4.2: Sum next to multiples of 10^9 + 7.
func TestSumNextToMultiples(t *testing.T) {
	source := rand.New(rand.NewSource(7))
	for n := range 300 {
		times := numberOf(drawn(source, 1+n))
		multiple := times.Mul(times, big.NewInt(1000000007))
		for i, a := range around(multiple) {
			s := numberOf(a).Text(10)
			checkSum(t, s)
			if got, ok := Sum(s); !ok || got != []uint64{0, 1, 1000000006}[i] {
				t.Fatal(n, i, got, ok)
			}
		}
	}
}

// P4.2: Sum next to powers of 10, and of 2, of 2^64 among them.
func TestSumNextToPowers(t *testing.T) {
	for n := range 300 {
		for _, a := range append(around(powerOf(10, n)), around(powerOf(2, n))...) {
			checkSum(t, numberOf(a).Text(10))
		}
	}
}

// P4.2: Sum of MaxDigits digits, and of none with more.
func TestSumOfMaxDigits(t *testing.T) {
	source := rand.New(rand.NewSource(8))
	for _, n := range cutLengths() {
		checkSum(t, drawnDigits(source, n))
	}
	checkSum(t, strings.Repeat("9", api.MaxDigits))
	checkSum(t, "1"+strings.Repeat("0", api.MaxDigits-1))
	for _, s := range tooLong() {
		checkNoSum(t, s)
	}
}

// P4.2: of no numerals there is nothing.
func TestSumOfWrongTexts(t *testing.T) {
	for _, s := range wrong() {
		checkNoSum(t, s)
	}
	for x := range 256 {
		for _, s := range withByte(byte(x)) {
			if x < '0' || x > '9' || s[0] == '0' && len(s) > 1 {
				checkNoSum(t, s)
			} else {
				checkSum(t, s)
			}
		}
	}
}
