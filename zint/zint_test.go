package zint

import (
	"math"
	"math/big"
	"math/rand"
	"testing"

	"quincunx/api"
	"quincunx/nat"
)

// P5.1: Of next to 0, and to the least and the greatest number of 64 bits.
func TestOf(t *testing.T) {
	for x := int64(-300); x <= 300; x++ {
		expect(t, "Of", Of(x), big.NewInt(x))
		expect(t, "Of", Of(math.MinInt64+300+x), big.NewInt(math.MinInt64+300+x))
		expect(t, "Of", Of(math.MaxInt64-300+x), big.NewInt(math.MaxInt64-300+x))
	}
	source := rand.New(rand.NewSource(1))
	for range 1000 {
		x := int64(source.Uint64()) >> source.Intn(64)
		expect(t, "Of", Of(x), big.NewInt(x))
	}
}

// P5.1: From of naturals, normal and not.
func TestFrom(t *testing.T) {
	for _, a := range mixed() {
		expect(t, "From", From(a.A, a.Neg), valueOf(a))
	}
	for _, a := range noughts() {
		alike(t, "From of 0", From(a.A, true), Int{})
		alike(t, "From of 0", From(a.A, false), Int{})
	}
}

func checkSmall(t *testing.T, a Int) {
	t.Helper()
	number := valueOf(a)
	x, ok := Small(a)
	if ok != number.IsInt64() {
		t.Fatal(a, x, ok)
	}
	if ok && x != number.Int64() || !ok && x != 0 {
		t.Fatal(a, x, ok)
	}
}

// P5.1: Small of numbers next to the least and the greatest one of 64 bits, and
// of longer ones.
func TestSmall(t *testing.T) {
	for _, x := range []int64{0, 1, -1, 7, -7, math.MaxInt64, math.MaxInt64 - 1, math.MinInt64, math.MinInt64 + 1} {
		for n := range 3 {
			if got, ok := Small(longer(Of(x), n)); !ok || got != x {
				t.Error(x, got, ok)
			}
		}
	}
	for _, a := range []Int{{false, nat.Nat{1 << 63}}, {true, nat.Nat{1<<63 + 1}}, {false, nat.Nat{top}}, {true, nat.Nat{top}}, {true, nat.Nat{0, 1}}, {false, nat.Nat{0, 1}}} {
		for n := range 3 {
			if got, ok := Small(longer(a, n)); ok || got != 0 {
				t.Error(a, got, ok)
			}
		}
	}
	for _, a := range mixed() {
		checkSmall(t, a)
	}
}

// P5.1: Sign, Neg, Abs and Bits.
func TestSigns(t *testing.T) {
	for _, a := range mixed() {
		number := valueOf(a)
		if Sign(a) != number.Sign() || Bits(a) != number.BitLen() {
			t.Error(a, Sign(a), Bits(a))
		}
		expect(t, "Neg", Neg(a), new(big.Int).Neg(number))
		expect(t, "Abs", Abs(a), new(big.Int).Abs(number))
	}
	if Sign(Of(-3)) != -1 || Sign(Of(3)) != 1 || Bits(Of(-8)) != 4 || Bits(Of(7)) != 3 || Bits(Of(math.MinInt64)) != 64 {
		t.Error("of small numbers")
	}
	for _, a := range noughts() {
		alike(t, "Neg of 0", Neg(a), Int{})
		alike(t, "Abs of 0", Abs(a), Int{})
		if Sign(a) != 0 || Bits(a) != 0 {
			t.Error(a)
		}
	}
}

// P5.1: Cmp and Same.
func TestCmp(t *testing.T) {
	for _, a := range mixed() {
		for _, b := range mixed() {
			want := valueOf(a).Cmp(valueOf(b))
			if got := Cmp(a, b); got != want {
				t.Fatal(a, b, got)
			}
			if got := Same(a, b); got != (want == 0) {
				t.Fatal(a, b, got)
			}
		}
	}
	for _, a := range noughts() {
		for _, b := range noughts() {
			if Cmp(a, b) != 0 || !Same(a, b) {
				t.Error(a, b)
			}
		}
	}
}

// checkSums holds sums, differences and products against a reckoning of their own.
func checkSums(t *testing.T, a, b Int) {
	t.Helper()
	x, y := valueOf(a), valueOf(b)
	expect(t, "Add", Add(a, b), new(big.Int).Add(x, y))
	expect(t, "Sub", Sub(a, b), new(big.Int).Sub(x, y))
	expect(t, "Mul", Mul(a, b), new(big.Int).Mul(x, y))
}

// P5.1: Add, Sub and Mul, of numbers that cancel too.
func TestSums(t *testing.T) {
	for _, a := range mixed() {
		for _, b := range mixed() {
			checkSums(t, a, b)
		}
		alike(t, "a - a", Sub(a, longer(a, 2)), Int{})
		alike(t, "a + -a", Add(longer(a, 1), Neg(a)), Int{})
	}
	source := rand.New(rand.NewSource(2))
	for range 3000 {
		checkSums(t, drawnAny(source, 6), drawnAny(source, 6))
	}
	for _, size := range [][2]int{{200, 200}, {300, 7}, {1000, 999}} {
		checkSums(t, drawn(source, size[0]), drawn(source, size[1]))
	}
}

func checkPow(t *testing.T, a Int, n int) {
	t.Helper()
	number := valueOf(a)
	got, ok := Pow(a, n)
	if n < 0 || number.BitLen() > 0 && n > api.MaxBits/number.BitLen() {
		expectNothing(t, "Pow", ok, got)
		return
	}
	if !ok {
		t.Fatal("Pow is refused", a, n)
	}
	expect(t, "Pow", got, new(big.Int).Exp(number, big.NewInt(int64(n)), nil))
}

// P5.1: powers with odd and even exponents, of 0 and of those below it too.
func TestPow(t *testing.T) {
	for _, a := range mixed() {
		for n := -3; n < 12; n++ {
			checkPow(t, a, n)
		}
	}
	for n := range 200 {
		for x := int64(-3); x <= 3; x++ {
			checkPow(t, Of(x), n)
			checkPow(t, longer(Of(x), 2), n)
		}
	}
	for _, a := range noughts() {
		one, _ := Pow(a, 0)
		alike(t, "0 to the 0", one, Of(1))
		none, _ := Pow(a, 3)
		alike(t, "0 to the 3", none, Int{})
	}
}

// P5.1: powers that layer 2 refuses, and the last ones that it doesn't.
func TestPowNextToMaxBits(t *testing.T) {
	for _, bits := range []int{1, 2, 3, 60, 64, 65, 1000, api.MaxBits/2 + 1, api.MaxBits - 1, api.MaxBits} {
		power := intOf(new(big.Int).Lsh(big.NewInt(1), uint(bits-1)))
		most := api.MaxBits / bits
		for _, a := range []Int{power, Neg(power), longer(Neg(power), 1)} {
			for n := most - 1; n <= most+2; n++ {
				checkPow(t, a, n)
			}
			checkPow(t, a, math.MaxInt)
			checkPow(t, a, math.MinInt)
		}
	}
	for _, a := range noughts() {
		for _, n := range []int{math.MaxInt, math.MaxInt - 1} {
			checkNoughtPow(t, a, n)
		}
	}
}

// checkNoughtPow: 0 has no bits, so that no exponent from 0 on is too great.
func checkNoughtPow(t *testing.T, a Int, n int) {
	t.Helper()
	got, ok := Pow(a, n)
	if !ok {
		t.Fatal("Pow of 0 is refused", n)
	}
	alike(t, "Pow of 0", got, Int{})
}
