package div

import (
	"math/big"
	"math/rand"
	"testing"

	"quincunx/api"
	"quincunx/nat"
)

// checkDiv holds DivMod, Mod, Exact, and Small of a word, against a reckoning
// of their own.
func checkDiv(t *testing.T, a, b nat.Nat) {
	t.Helper()
	quotient, rest, ok := DivMod(a, b)
	left, leftOk := Mod(a, b)
	exact, exactOk := Exact(a, b)
	if valueOf(b).Sign() == 0 {
		if ok || leftOk || exactOk || len(quotient)+len(rest)+len(left)+len(exact) > 0 {
			t.Fatal("by 0:", a, quotient, rest, ok, left, leftOk, exact, exactOk)
		}
		return
	}
	wantQuotient, wantRest := new(big.Int).QuoRem(valueOf(a), valueOf(b), new(big.Int))
	if !ok || !leftOk {
		t.Fatal("nothing of", a, b)
	}
	expect(t, "DivMod's quotient", quotient, wantQuotient)
	expect(t, "DivMod's rest", rest, wantRest)
	expect(t, "Mod", left, wantRest)
	if exactOk != (wantRest.Sign() == 0) || !exactOk && len(exact) > 0 {
		t.Fatal("Exact", a, b, exact, exactOk)
	}
	if exactOk {
		expect(t, "Exact", exact, wantQuotient)
	}
	if x, isWord := nat.Word(b); isWord {
		checkSmall(t, a, x, wantQuotient, wantRest)
	}
}

func checkSmall(t *testing.T, a nat.Nat, x uint64, wantQuotient, wantRest *big.Int) {
	t.Helper()
	quotient, rest, ok := Small(a, x)
	if !ok || rest != wantRest.Uint64() {
		t.Fatal("Small's rest", a, x, rest, ok)
	}
	expect(t, "Small's quotient", quotient, wantQuotient)
}

// P3.1: all four, of short naturals, normal and not; as long as the divisor,
// longer, and shorter.
func TestDivOfSamples(t *testing.T) {
	for _, a := range samples() {
		for _, b := range samples() {
			checkDiv(t, a, b)
		}
	}
}

// P3.1: numbers that are easily reckoned.
func TestDivOfPlainNumbers(t *testing.T) {
	quotient, rest, ok := DivMod(nat.Of(100), nat.Of(7))
	if !ok || nat.Cmp(quotient, nat.Of(14)) != 0 || nat.Cmp(rest, nat.Of(2)) != 0 {
		t.Error(quotient, rest, ok)
	}
	if rest, ok := Mod(nat.Of(100), nat.Of(7)); !ok || nat.Cmp(rest, nat.Of(2)) != 0 {
		t.Error(rest, ok)
	}
	if quotient, ok := Exact(nat.Of(98), nat.Of(7)); !ok || nat.Cmp(quotient, nat.Of(14)) != 0 {
		t.Error(quotient, ok)
	}
	if quotient, ok := Exact(nat.Of(100), nat.Of(7)); ok || len(quotient) != 0 {
		t.Error(quotient, ok)
	}
	if quotient, rest, ok := Small(nat.Of(100), 7); !ok || nat.Cmp(quotient, nat.Of(14)) != 0 || rest != 2 {
		t.Error(quotient, rest, ok)
	}
}

// P3.1: by 0 there is nothing, of 0 and of others.
func TestDivByNought(t *testing.T) {
	for _, a := range samples() {
		for _, b := range noughts() {
			checkDiv(t, a, b)
		}
		if quotient, rest, ok := Small(a, 0); ok || rest != 0 || len(quotient) != 0 {
			t.Error(a, quotient, rest, ok)
		}
	}
}

// P3.1: 0 is divided by all others, and by 1 all are.
func TestDivOfNoughtAndByOne(t *testing.T) {
	for _, b := range samples() {
		for _, a := range noughts() {
			checkDiv(t, a, b)
			if exact, ok := Exact(a, b); ok != (nat.Bits(b) > 0) || len(exact) != 0 {
				t.Error(b, exact, ok)
			}
		}
		for _, one := range []nat.Nat{{1}, {1, 0}, {1, 0, 0, 0, 0, 0, 0, 0, 0, 0}} {
			quotient, rest, ok := DivMod(b, one)
			if !ok || len(rest) != 0 {
				t.Error(b, rest, ok)
			}
			alike(t, "by 1", quotient, nat.Norm(b))
		}
	}
}

// P3.1: by a word.
func TestDivByWords(t *testing.T) {
	source := rand.New(rand.NewSource(4))
	for _, x := range words() {
		for n := 1; n < 40; n++ {
			checkDiv(t, drawn(source, n), nat.Nat{x})
			checkDiv(t, longer(drawn(source, n), 3), nat.Nat{x, 0})
			checkDiv(t, nat.MulAdd(drawn(source, n), x, 0), nat.Nat{x})
		}
	}
}

// P3.1: divisors whose greatest word has each number of bits.
func TestDivByEachShift(t *testing.T) {
	source := rand.New(rand.NewSource(5))
	for up := range wordBits {
		for n := 1; n < 6; n++ {
			b := drawn(source, n)
			b[n-1] = (b[n-1] | 1<<63) >> up
			for m := n; m < n+4; m++ {
				a := drawn(source, m)
				checkDiv(t, a, b)
				a[m-1] |= 1 << 63
				checkDiv(t, a, b)
			}
		}
	}
}

// P3.1: rests that are the least, and the greatest: multiples of the divisor,
// and the numbers next to them.
func TestDivNextToMultiples(t *testing.T) {
	source := rand.New(rand.NewSource(6))
	for range 3000 {
		b, q := drawn(source, 1+source.Intn(6)), drawn(source, 1+source.Intn(6))
		a := nat.Mul(b, q)
		checkDiv(t, a, b)
		checkDiv(t, a, q)
		checkDiv(t, nat.Add(a, nat.Of(1)), b)
		less, _ := nat.Sub(a, nat.Of(1))
		checkDiv(t, less, b)
	}
}

// P3.1: a divisor next to the number, and behind it by its last word alone.
func TestDivOfLikeNumbers(t *testing.T) {
	for _, a := range samples() {
		more := nat.Add(a, nat.Of(1))
		checkDiv(t, a, a)
		checkDiv(t, a, more)
		checkDiv(t, more, a)
		checkDiv(t, longer(a, 9), a)
		checkDiv(t, a, longer(a, 9))
		checkDiv(t, a, longer(more, 9))
	}
}

// P3.1: long numbers, also of more bits than MaxBits.
func TestDivOfManyWords(t *testing.T) {
	source := rand.New(rand.NewSource(7))
	for _, size := range [][2]int{{100, 50}, {500, 499}, {500, 300}, {500, 2}, {1200, 400}, {30, 500}, {20000, 1}, {20000, 3}, {20000, 19990}} {
		checkDiv(t, drawn(source, size[0]), drawn(source, size[1]))
	}
	far := powerOfTwo(2*api.MaxBits + 5)
	checkDiv(t, far, nat.Of(3))
	checkDiv(t, far, powerOfTwo(2*api.MaxBits-70))
	checkDiv(t, far, nat.Nat{7, 1})
	checkDiv(t, nat.Of(3), far)
	checkDiv(t, far, nat.Add(far, nat.Of(1)))
}
