package rat_test

import (
	"math"
	"math/big"
	"math/rand"
	"testing"

	"quincunx/api"
	"quincunx/nat"
	"quincunx/rat"
	"quincunx/zint"
)

// checkSums holds what is reckoned of two fractions against a reckoning of its own.
func checkSums(t *testing.T, a, b rat.Rat) {
	t.Helper()
	x, y := numberOf(a), numberOf(b)
	expect(t, "Neg", rat.Neg(a), new(big.Rat).Neg(x))
	expect(t, "Add", rat.Add(a, b), new(big.Rat).Add(x, y))
	expect(t, "Sub", rat.Sub(a, b), new(big.Rat).Sub(x, y))
	expect(t, "Mul", rat.Mul(a, b), new(big.Rat).Mul(x, y))
	quotient, ok := rat.Quo(a, b)
	if y.Sign() == 0 {
		expectNone(t, "Quo", quotient, ok)
		return
	}
	if !ok {
		t.Fatal("Quo is refused", a, b)
	}
	expect(t, "Quo", quotient, new(big.Rat).Quo(x, y))
}

// P7.1: sums, differences, products and quotients of samples, normal and not.
func TestSums(t *testing.T) {
	for _, a := range mixed() {
		for _, b := range mixed() {
			checkSums(t, a, b)
		}
	}
}

// P7.1: the same of all small fractions, with all signs and noughts.
func TestSumsOfSmallFractions(t *testing.T) {
	for code := range 9 * 9 * 9 * 9 {
		checkSums(t, over(int64(code%9-4), int64(code/9%9-4)), over(int64(code/81%9-4), int64(code/729-4)))
	}
}

// P7.1: the same of drawn fractions, short and long.
func TestSumsOfDrawnFractions(t *testing.T) {
	source := rand.New(rand.NewSource(72))
	for range 3000 {
		checkSums(t, drawnAny(source, 4), drawnAny(source, 4))
	}
	for range 20 {
		checkSums(t, drawn(source, 120), drawn(source, 90))
	}
}

// P7.1: sums and products that cancel, be it to 0, to a whole number, or in part.
func TestSumsThatCancel(t *testing.T) {
	for _, a := range mixed() {
		for _, b := range forms(a) {
			alike(t, "a - a", rat.Sub(a, b), over(0, 1))
			alike(t, "a + -a", rat.Add(b, rat.Neg(a)), over(0, 1))
			checkSums(t, a, b)
			checkSums(t, b, rat.Rat{N: a.D, D: a.N})
			checkSums(t, b, rat.Rat{N: zint.Of(5), D: a.D})
		}
	}
	for _, c := range [][5]int64{{1, 2, 1, 2, 1}, {1, 6, 1, 3, 2}, {5, 6, 1, 6, 1}, {-3, 10, 4, 5, 2}} {
		alike(t, "Add", rat.Add(over(c[0], c[1]), over(c[2], c[3])), over(1, c[4]))
	}
	alike(t, "the chapter's example", rat.Add(over(1, 2), over(1, 3)), over(5, 6))
}

// P7.1: fractions that count as 0, on either side: a D of 0 takes nothing with it.
func TestSumsOfNoughts(t *testing.T) {
	for _, a := range mixed() {
		for _, nought := range noughts() {
			expect(t, "a + 0", rat.Add(a, nought), numberOf(a))
			expect(t, "0 + a", rat.Add(nought, a), numberOf(a))
			expect(t, "a - 0", rat.Sub(a, nought), numberOf(a))
			expect(t, "0 - a", rat.Sub(nought, a), new(big.Rat).Neg(numberOf(a)))
			alike(t, "a 0", rat.Mul(a, nought), over(0, 1))
			alike(t, "0 a", rat.Mul(nought, a), over(0, 1))
			alike(t, "-0", rat.Neg(nought), over(0, 1))
		}
	}
}

// P7.1: Quo by 0, of any fraction, 0 too; and of 0, however it is written.
func TestQuoOfNoughts(t *testing.T) {
	for _, nought := range noughts() {
		for _, a := range append(mixed(), noughts()...) {
			quotient, ok := rat.Quo(a, nought)
			expectNone(t, "by 0", quotient, ok)
		}
		for _, a := range others() {
			quotient, ok := rat.Quo(nought, a)
			if !ok {
				t.Fatal("of 0", nought, a)
			}
			alike(t, "of 0", quotient, over(0, 1))
		}
	}
}

// isRefused tells whether there is no power: it is too great for layer 5, or 0's
// inverse is asked for.
func isRefused(x *big.Rat, n int) bool {
	size := big.NewInt(int64(n))
	if n < 0 && x.Sign() == 0 {
		return true
	}
	size.Abs(size)
	size.Mul(size, big.NewInt(int64(max(x.Num().BitLen(), x.Denom().BitLen()))))
	return size.Cmp(big.NewInt(api.MaxBits)) > 0
}

// checkPow holds Pow against a reckoning of its own.
func checkPow(t *testing.T, a rat.Rat, n int) {
	t.Helper()
	x := numberOf(a)
	got, ok := rat.Pow(a, n)
	if isRefused(x, n) {
		expectNone(t, "Pow", got, ok)
		return
	}
	if !ok {
		t.Fatal("Pow is refused", a, n)
	}
	e := big.NewInt(int64(max(n, -n)))
	want := new(big.Rat).SetFrac(new(big.Int).Exp(x.Num(), e, nil), new(big.Int).Exp(x.Denom(), e, nil))
	if n < 0 {
		want.Inv(want)
	}
	expect(t, "Pow", got, want)
}

// P7.1: Pow of samples, normal and not, with exponents on both sides of 0.
func TestPow(t *testing.T) {
	for _, a := range mixed() {
		for n := -9; n <= 9; n++ {
			checkPow(t, a, n)
		}
		for _, b := range forms(a) {
			for _, n := range []int{-3, -2, -1, 0, 1, 2, 3} {
				checkPow(t, b, n)
			}
		}
	}
	for n := -300; n <= 300; n++ {
		checkPow(t, over(-2, 3), n)
		checkPow(t, over(6, -4), n)
		checkPow(t, over(-7, 1), n)
		checkPow(t, over(1, -7), n)
	}
}

// P7.1: powers that are easily told.
func TestPowByHand(t *testing.T) {
	for _, c := range []struct {
		n, d int64
		e    int
		want string
	}{
		{2, 3, 3, "8/27"}, {2, 3, -3, "27/8"}, {-2, 3, 3, "-8/27"}, {-2, 3, -3, "-27/8"}, {2, -3, 2, "4/9"}, {2, -3, -2, "9/4"},
		{5, 1, -1, "1/5"}, {-5, 1, -1, "-1/5"}, {1, 5, -1, "5"}, {-1, 5, -2, "25"}, {4, 6, 1, "2/3"}, {4, 6, -1, "3/2"}, {4, 6, 0, "1"}, {-4, 6, 0, "1"},
		{0, 1, 0, "1"}, {5, 0, 0, "1"}, {0, 0, 0, "1"}, {0, -2, 1, "0"}, {7, 0, 1, "0"}, {7, 0, 5, "0"}, {-1, 1, -7, "-1"}, {1, -1, 8, "1"},
	} {
		power, ok := rat.Pow(over(c.n, c.d), c.e)
		if !ok || rat.Print(power) != c.want {
			t.Error(c, rat.Print(power), ok)
		}
		if !isNormal(power) {
			t.Error(c, power)
		}
	}
}

// P7.1: powers of 0: that to the 0 is 1, and there is none below. Its D is 1, which
// layer 5 raises to MaxBits at most.
func TestPowOfNought(t *testing.T) {
	for _, nought := range noughts() {
		for _, n := range []int{0, 1, 2, 1000, api.MaxBits} {
			power, ok := rat.Pow(nought, n)
			if !ok {
				t.Fatal(nought, n)
			}
			want := over(0, 1)
			if n == 0 {
				want = over(1, 1)
			}
			alike(t, "0 to the n", power, want)
		}
		for _, n := range []int{-1, -2, -1000, -api.MaxBits, math.MinInt + 1, math.MinInt, api.MaxBits + 1, math.MaxInt} {
			power, ok := rat.Pow(nought, n)
			expectNone(t, "0 to the n", power, ok)
		}
	}
}

// limits holds the exponents at which layer 5 begins to refuse numbers of so many
// bits, and those at which an int runs over.
func limits(bits int) []int {
	most := api.MaxBits / bits
	list := []int{most - 1, most, most + 1, api.MaxBits, api.MaxBits + 1, math.MaxInt32, math.MaxInt/2 + 1, math.MaxInt - 1, math.MaxInt}
	for _, n := range list {
		list = append(list, -n)
	}
	return append(list, math.MinInt)
}

// P7.1: Pow with exponents about MaxBits, and with the least and the greatest ones, of
// 1 and -1 and of fractions whose N, or whose D, is the greater one.
func TestPowAtTheLimits(t *testing.T) {
	for _, a := range []rat.Rat{over(1, 1), over(-1, 1), over(3, -3), over(-5, -5)} {
		for _, n := range limits(1) {
			checkPow(t, a, n)
		}
	}
	long := zint.Int{A: make(nat.Nat, 1000)}
	long.A[999] = 1 << 63
	for _, a := range []rat.Rat{
		over(2, 1), over(-1, 2), over(4, 1), over(1, 9), over(1, 1<<62), over(-1<<62, 1), {N: long, D: zint.Of(1)}, {N: zint.Of(-1), D: long},
	} {
		for _, n := range limits(rat.Bits(a)) {
			checkPow(t, a, n)
			checkPow(t, times(a, zint.Of(-6)), n)
		}
	}
}

// P7.1: what layer 5 is asked for are the powers of the normal numbers: those that
// divide both don't count.
func TestPowOfLongFormsOfShortNumbers(t *testing.T) {
	common := zint.Int{A: make(nat.Nat, api.MaxBits/64+1)}
	common.A[len(common.A)-1] = 5
	for _, c := range [][2]int64{{1, 1}, {-2, 3}, {0, 1}} {
		a := times(over(c[0], c[1]), common)
		for _, n := range []int{0, 1, 2, 3, 40} {
			checkPow(t, a, n)
			checkPow(t, a, -n)
		}
	}
}
