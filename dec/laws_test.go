package dec

import (
	"math/rand"
	"slices"
	"strings"
	"testing"

	"quincunx/api"
	"quincunx/div"
	"quincunx/nat"
)

func checkReadAgain(t *testing.T, a nat.Nat) {
	t.Helper()
	s := Print(a)
	if len(s) != Len(a) {
		t.Fatalf("Len of %d words: %d, and %d digits", len(a), Len(a), len(s))
	}
	if back, ok := Parse(s); !ok || !slices.Equal(back, nat.Norm(a)) {
		t.Fatalf("%d words, printed and read: %d words, %v", len(a), len(back), ok)
	}
}

func checkPrintedAgain(t *testing.T, s string) {
	t.Helper()
	a, ok := Parse(s)
	if !ok || Print(a) != s || Len(a) != len(s) {
		t.Fatalf("%d digits, read and printed: %v, %d digits", len(s), ok, Len(a))
	}
}

// P4.3: what is printed is read.
func TestPrintedIsRead(t *testing.T) {
	for _, a := range samples() {
		checkReadAgain(t, a)
	}
	source := rand.New(rand.NewSource(9))
	for n := 1; n <= 1000; n += 7 {
		checkReadAgain(t, drawn(source, n))
	}
	for n := range 300 {
		for _, a := range append(around(powerOf(10, n)), around(powerOf(2, n))...) {
			checkReadAgain(t, a)
		}
	}
}

// P4.3: what is read is printed.
func TestReadIsPrinted(t *testing.T) {
	checkPrintedAgain(t, "0")
	source := rand.New(rand.NewSource(10))
	for n := 1; n < 400; n++ {
		checkPrintedAgain(t, drawnDigits(source, n))
	}
	for _, n := range cutLengths() {
		checkPrintedAgain(t, drawnDigits(source, n))
		checkPrintedAgain(t, strings.Repeat("9", n))
		checkPrintedAgain(t, "1"+strings.Repeat("0", n-1))
	}
}

// P4.3: just what has more digits than MaxDigits is printed and isn't read.
func TestTooLongIsNotRead(t *testing.T) {
	list := around(powerOf(10, api.MaxDigits))
	for i, a := range list {
		s := Print(a)
		if _, ok := Parse(s); ok != (len(s) == api.MaxDigits) {
			t.Error(i, len(s), ok)
		}
	}
}

// P4.2, P4.3: Sum is the rest of what Parse reads.
func TestSumIsRest(t *testing.T) {
	source := rand.New(rand.NewSource(11))
	for n := 1; n < 1000; n++ {
		s := drawnDigits(source, n)
		a, _ := Parse(s)
		_, rest, _ := div.Small(a, 1000000007)
		if got, ok := Sum(s); !ok || got != rest {
			t.Fatal(s, got, rest, ok)
		}
	}
}

// P4.3: numbers go as their digits do: by how many there are, and then by the
// first ones that differ.
func TestOrder(t *testing.T) {
	source := rand.New(rand.NewSource(12))
	for range 2000 {
		n := 1 + source.Intn(60)
		s, r := drawnDigits(source, n), drawnDigits(source, n+source.Intn(2))
		want := len(s) - len(r)
		if want == 0 {
			want = strings.Compare(s, r)
		}
		a, _ := Parse(s)
		b, _ := Parse(r)
		if nat.Cmp(a, b) != want {
			t.Fatal(s, r)
		}
	}
}
