package gfp_test

import (
	"math"
	"math/big"
	"math/rand"
	"testing"

	"quincunx/gfp"
)

// inverseOf finds the element whose product with a is 1 by Euclid's way; 0 of 0.
func inverseOf(a, p uint64) *big.Int {
	inverse := new(big.Int).ModInverse(bigOf(a), bigOf(p))
	if inverse == nil {
		return new(big.Int)
	}
	return inverse
}

// powerOf is a to the n, or the inverse to the -n, by whole numbers.
func powerOf(a uint64, n int, p uint64) *big.Int {
	base, times := bigOf(a), big.NewInt(int64(n))
	if n < 0 {
		base = inverseOf(a, p)
		times.Neg(times)
	}
	return new(big.Int).Exp(base, times, bigOf(p))
}

func checkInv(t *testing.T, f gfp.Field, a uint64) {
	t.Helper()
	expect(t, "Inv", f, f.Inv(a), inverseOf(a, f.P()))
}

func checkPow(t *testing.T, f gfp.Field, a uint64, n int) {
	t.Helper()
	if got, want := f.Pow(a, n), restOf(powerOf(a, n, f.P()), f.P()); got != want {
		t.Fatalf("Pow of %d to the %d by %d: %d, and not %d", a, n, f.P(), got, want)
	}
}

// exponents holds those next to 0, to multiples of p - 1, and the least and greatest
// ones.
func exponents(p uint64) []int {
	var list []int
	for n := -9; n <= 9; n++ {
		list = append(list, n)
	}
	for apart := -2; apart <= 2; apart++ {
		for _, n := range []int{int(p), int(p) - 1, 5 * (int(p) - 1), 1 << 31, 1 << 32, 1 << 62} {
			list = append(list, n+apart, apart-n)
		}
	}
	return append(list, math.MaxInt, math.MaxInt-1, math.MinInt, math.MinInt+1, math.MinInt+2, math.MaxInt/3, math.MinInt/5)
}

// P8.1: answers that are easily reckoned.
func TestInvAndPow(t *testing.T) {
	f, last := fieldOf(t, 7), fieldOf(t, greatest)
	two, three := fieldOf(t, 2), fieldOf(t, 3)
	for _, c := range [][2]uint64{
		{f.Inv(0), 0}, {f.Inv(1), 1}, {f.Inv(2), 4}, {f.Inv(3), 5}, {f.Inv(4), 2}, {f.Inv(5), 3}, {f.Inv(6), 6}, {f.Inv(7), 0}, {f.Inv(10), 5}, {f.Inv(700), 0},
		{two.Inv(0), 0}, {two.Inv(1), 1}, {two.Inv(2), 0}, {two.Inv(top), 1}, {three.Inv(0), 0}, {three.Inv(1), 1}, {three.Inv(2), 2}, {three.Inv(3), 0},
		{last.Inv(2), 1 << 30}, {last.Inv(greatest - 1), greatest - 1}, {last.Inv(0), 0}, {last.Inv(greatest), 0}, {last.Inv(greatest + 2), 1 << 30}, {last.Inv(top), 1431655765},
		{f.Pow(3, 6), 1}, {f.Pow(3, 2), 2}, {f.Pow(3, -1), 5}, {f.Pow(3, -2), 4}, {f.Pow(10, -2), 4}, {f.Pow(0, 0), 1}, {f.Pow(7, 0), 1}, {f.Pow(0, 5), 0}, {f.Pow(0, -1), 0}, {f.Pow(14, -5), 0},
		{f.Pow(6, math.MinInt), 1}, {f.Pow(6, math.MaxInt), 6}, {f.Pow(0, math.MinInt), 0}, {f.Pow(0, math.MaxInt), 0}, {f.Pow(2, math.MinInt), 2}, {f.Pow(2, math.MaxInt), 2},
		{two.Pow(0, 0), 1}, {two.Pow(1, 0), 1}, {two.Pow(0, -1), 0}, {two.Pow(2, 0), 1}, {two.Pow(3, math.MinInt), 1}, {two.Pow(2, math.MinInt), 0},
		{last.Pow(2, 31), 1}, {last.Pow(2, -1), 1 << 30}, {last.Pow(2, 30), 1 << 30}, {last.Pow(greatest-1, math.MaxInt), greatest - 1}, {last.Pow(greatest-1, math.MinInt), 1},
	} {
		if c[0] != c[1] {
			t.Error(c)
		}
	}
}

// P8.1: inverses of all elements by small primes, found by trying, and of the words
// that count as them.
func TestInvOfSmallPrimes(t *testing.T) {
	for p := uint64(2); p < 300; p++ {
		if !hasNoDivisor(p) {
			continue
		}
		f := fieldOf(t, p)
		for a := range p {
			inverse := uint64(0)
			for b := range p {
				if a*b%p == 1 {
					inverse = b
				}
			}
			for _, word := range []uint64{a, a + p, a + 100*p, a + (top/p-1)*p} {
				if got := f.Inv(word); got != inverse {
					t.Fatal(p, word, got, inverse)
				}
			}
		}
	}
}

// P8.1: inverses of the least and the greatest elements, of words that are none, and
// of drawn ones.
func TestInvOfWords(t *testing.T) {
	source := rand.New(rand.NewSource(85))
	for _, p := range primes() {
		f := fieldOf(t, p)
		for _, a := range words(p) {
			checkInv(t, f, a)
		}
		for range 300 {
			checkInv(t, f, drawn(source, p))
		}
	}
}

// P8.1: powers are products: of all small words, by small primes.
func TestPowIsAProduct(t *testing.T) {
	for _, p := range []uint64{2, 3, 5, 7, 11, 13} {
		f := fieldOf(t, p)
		for a := range 2*p + 3 {
			inverse := inverseOf(a, p).Uint64()
			power, below := uint64(1), uint64(1)
			for n := range 40 {
				if f.Pow(a, n) != power || f.Pow(a, -n) != below {
					t.Fatal(p, a, n, f.Pow(a, n), f.Pow(a, -n))
				}
				power, below = power*(a%p)%p, below*inverse%p
			}
		}
	}
}

// P8.1: powers of elements and of words that are none, with the least and the
// greatest exponents.
func TestPowOfWords(t *testing.T) {
	for _, p := range primes() {
		f := fieldOf(t, p)
		for _, a := range words(p) {
			for _, n := range exponents(p) {
				checkPow(t, f, a, n)
			}
		}
	}
}

// P8.1: drawn powers.
func TestPowOfDrawnWords(t *testing.T) {
	source := rand.New(rand.NewSource(86))
	for _, p := range primes() {
		f := fieldOf(t, p)
		for range 300 {
			n := int(source.Uint64()) >> source.Intn(64)
			checkPow(t, f, drawn(source, p), n)
		}
	}
}
