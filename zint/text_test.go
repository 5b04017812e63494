package zint

import (
	"math/big"
	"math/rand"
	"strings"
	"testing"

	"quincunx/api"
	"quincunx/nat"
)

// P5.4: Print of numbers that are easily told.
func TestPrint(t *testing.T) {
	for want, a := range map[string]Int{
		"7": {false, nat.Nat{7}}, "-7": {true, nat.Nat{7}}, "-10": {true, nat.Nat{10, 0}}, "18446744073709551616": {false, nat.Nat{0, 1}},
		"-18446744073709551616": {true, nat.Nat{0, 1, 0}}, "-9223372036854775808": Of(-1 << 63), "-1": Of(-1),
	} {
		if got := Print(a); got != want {
			t.Error(want, got)
		}
	}
	for _, a := range noughts() {
		if got := Print(a); got != "0" {
			t.Error(a, got)
		}
	}
}

// P5.4: Print of samples, and of more than MaxDigits digits.
func TestPrintOfSamples(t *testing.T) {
	power := new(big.Int).Exp(big.NewInt(-10), big.NewInt(api.MaxDigits+1), nil)
	for _, a := range append(mixed(), intOf(power)) {
		if got, want := Print(a), valueOf(a).Text(10); got != want {
			t.Errorf("%.60q, not %.60q", got, want)
		}
	}
}

func checkParse(t *testing.T, s string) {
	t.Helper()
	want, isNumber := new(big.Int).SetString(s, 10)
	got, ok := Parse(s)
	if !isNumber || !ok {
		t.Fatalf("Parse of %.60q: %v", s, ok)
	}
	expect(t, "Parse", got, want)
}

func checkNone(t *testing.T, s string) {
	t.Helper()
	if a, ok := Parse(s); ok || a.Neg || len(a.A) > 0 {
		t.Errorf("Parse of %.60q: %v", s, ok)
	}
}

// P5.4: numerals, with - ahead and without, up to MaxDigits digits.
func TestParse(t *testing.T) {
	checkParse(t, "0")
	for _, s := range []string{"1", "7", "10", "9223372036854775807", "9223372036854775808", "18446744073709551616"} {
		checkParse(t, s)
		checkParse(t, "-"+s)
	}
	source := rand.New(rand.NewSource(9))
	for range 500 {
		checkParse(t, valueOf(drawnAny(source, 8)).Text(10))
	}
	for _, n := range []int{1, 18, 19, 100, api.MaxDigits - 1, api.MaxDigits} {
		for _, s := range []string{strings.Repeat("9", n), "1" + strings.Repeat("0", n-1)} {
			checkParse(t, s)
			checkParse(t, "-"+s)
		}
	}
}

// P5.4: texts that are no numerals, with a - ahead and without.
func TestParseOfWrongTexts(t *testing.T) {
	for _, s := range []string{
		"", "-", "-0", "--", "--1", "---1", "-+1", "+-1", "+", "+0", "+1", "- 1", "-1 ", " -1", "1-", "-1-", "1-1", "-1-1",
		"00", "-00", "01", "-01", "-007", "0-", "0-1", "-0-1", " ", "- ", " 1", "1 ", "1 1", "-1 1", "\t-1", "-\t1", "-1\n", "\x00-1", "-\x00",
		"a", "-a", "-1a", "-0x1", "1e5", "-1.0", "-.1", "-1/2", "1_0", "-1_0", "-1,0", "\u22121", "\u20131", "-\u0661", "-\uff11", "\xff", "-\xff",
	} {
		checkNone(t, s)
	}
	for x := range 256 {
		if x < '0' || x > '9' {
			checkNone(t, "-"+string([]byte{byte(x)}))
			checkNone(t, "-4"+string([]byte{byte(x)})+"4")
			checkNone(t, "-44"+string([]byte{byte(x)}))
			checkNone(t, "44"+string([]byte{byte(x)}))
		}
		if x != '-' && (x < '1' || x > '9') {
			checkNone(t, string([]byte{byte(x)})+"44")
			checkNone(t, string([]byte{byte(x)})+"-44")
		}
	}
}

// P5.4: more digits than MaxDigits, with - ahead and without.
func TestParseOfTooManyDigits(t *testing.T) {
	const n = api.MaxDigits + 1
	for _, s := range []string{strings.Repeat("9", n), "1" + strings.Repeat("0", n-1), "0" + strings.Repeat("1", n-1), strings.Repeat("3", 5*n)} {
		checkNone(t, s)
		checkNone(t, "-"+s)
	}
}

// P5.4: what is printed is read, and the other way round.
func TestPrintedIsRead(t *testing.T) {
	for _, a := range mixed() {
		back, ok := Parse(Print(a))
		if !ok {
			t.Fatal(a)
		}
		alike(t, "Parse of Print", back, intOf(valueOf(a)))
	}
	for _, s := range []string{"0", "5", "-5", "-" + strings.Repeat("8", api.MaxDigits), "-1" + strings.Repeat("0", 300)} {
		if a, ok := Parse(s); !ok || Print(a) != s {
			t.Errorf("%.60q: %v", s, ok)
		}
	}
}
