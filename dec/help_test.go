package dec

import (
	"math/big"
	"math/rand"
	"slices"
	"strings"
	"testing"

	"quincunx/api"
	"quincunx/nat"
)

const top = 1<<64 - 1

// numberOf reckons a's number by layer 1's words alone.
func numberOf(a nat.Nat) *big.Int {
	bytes := make([]byte, 8*len(a))
	for i, w := range a {
		for k := range 8 {
			bytes[len(bytes)-1-8*i-k] = byte(w >> (8 * k))
		}
	}
	return new(big.Int).SetBytes(bytes)
}

// natOf is the normal natural of x.
func natOf(x *big.Int) nat.Nat {
	bytes := x.FillBytes(make([]byte, 8*((x.BitLen()+63)/64)))
	a := make(nat.Nat, len(bytes)/8)
	for i := range bytes {
		k := len(bytes) - 1 - i
		a[k/8] |= uint64(bytes[i]) << (8 * (k % 8))
	}
	return a
}

// powerOf is base^n.
func powerOf(base int64, n int) *big.Int {
	return new(big.Int).Exp(big.NewInt(base), big.NewInt(int64(n)), nil)
}

// around holds x and its neighbours, from 0 on.
func around(x *big.Int) []nat.Nat {
	list := []nat.Nat{natOf(x), natOf(new(big.Int).Add(x, big.NewInt(1)))}
	if x.Sign() > 0 {
		list = append(list, natOf(new(big.Int).Sub(x, big.NewInt(1))))
	}
	return list
}

// longer is a with n noughts behind it: the same number.
func longer(a nat.Nat, n int) nat.Nat {
	return append(slices.Clone(a), make(nat.Nat, n)...)
}

// noughts holds the ways to write 0.
func noughts() []nat.Nat {
	return []nat.Nat{nil, {}, {0}, {0, 0, 0}}
}

// samples holds short naturals, normal and not, and drawn ones.
func samples() []nat.Nat {
	list := append(noughts(),
		nat.Nat{1}, nat.Nat{7}, nat.Nat{9}, nat.Nat{10}, nat.Nat{5, 0, 0}, nat.Nat{top}, nat.Nat{top, 0},
		nat.Nat{1 << 63}, nat.Nat{0, 1}, nat.Nat{0, 1, 0}, nat.Nat{1, 1}, nat.Nat{top, top}, nat.Nat{0, top, 0, 1},
		nat.Nat{0, 0, 0, 1 << 63, 0, 0}, nat.Nat{top, top, top, top, top},
	)
	source := rand.New(rand.NewSource(4))
	for n := 1; n < 40; n++ {
		list = append(list, drawn(source, n), longer(drawn(source, n), n))
	}
	return list
}

// drawn is a natural of n words, the last one not 0.
func drawn(source *rand.Rand, n int) nat.Nat {
	a := make(nat.Nat, n)
	for i := range a {
		a[i] = source.Uint64() >> source.Intn(64)
	}
	a[n-1] = max(a[n-1], 1)
	return a
}

// drawnDigits is a numeral of n digits; from its second digit on it has runs of
// noughts, and of nines.
func drawnDigits(source *rand.Rand, n int) string {
	digits := make([]byte, 0, n+40)
	digits = append(digits, byte('1'+source.Intn(9)))
	for len(digits) < n {
		switch run := source.Intn(40); source.Intn(6) {
		case 0:
			digits = append(digits, strings.Repeat("0", run)...)
		case 1:
			digits = append(digits, strings.Repeat("9", run)...)
		default:
			digits = append(digits, byte('0'+source.Intn(10)))
		}
	}
	return string(digits[:n])
}

// cutLengths holds numbers of digits at which numbers are cut once more, and
// those beside them, up to MaxDigits.
func cutLengths() []int {
	list := []int{1, 2, api.MaxDigits - 1, api.MaxDigits}
	for n := unitDigits; n < api.MaxDigits; n *= 2 {
		list = append(list, n-1, n, n+1, n+unitDigits)
	}
	return list
}

// checkDigits holds Print and Len of a against a reckoning of their own.
func checkDigits(t *testing.T, a nat.Nat) {
	t.Helper()
	want := numberOf(a).Text(10)
	if got := Print(a); got != want {
		t.Fatalf("Print of %d words: %.60q, not %.60q", len(a), got, want)
	}
	if got := Len(a); got != len(want) {
		t.Fatalf("Len of %d words: %d, not %d", len(a), got, len(want))
	}
}

// checkNumeral holds Parse of the numeral s against a reckoning of its own.
func checkNumeral(t *testing.T, s string) {
	t.Helper()
	want, isNumber := new(big.Int).SetString(s, 10)
	got, ok := Parse(s)
	if !isNumber || !ok {
		t.Fatalf("Parse of %d digits, %.60q: %v", len(s), s, ok)
	}
	if !slices.Equal(got, natOf(want)) {
		t.Fatalf("Parse of %d digits, %.60q: %d words of another number", len(s), s, len(got))
	}
}
