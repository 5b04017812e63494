package modn

import (
	"math/rand"
	"testing"
)

const limit = 1 << 31

// hasNoDivisor tells whether p is a prime, by trying all numbers that might divide
// it.
func hasNoDivisor(p uint64) bool {
	if p < 2 {
		return false
	}
	for d := uint64(2); d*d <= p; d++ {
		if p%d == 0 {
			return false
		}
	}
	return true
}

// sieve tells of each number below n whether it is a prime.
func sieve(n int) []bool {
	is := make([]bool, n)
	for i := 2; i < n; i++ {
		is[i] = true
	}
	for i := 2; i*i < n; i++ {
		for k := i * i; is[i] && k < n; k += i {
			is[k] = false
		}
	}
	return is
}

// P6.3: all numbers below 2^22.
func TestPrimeOfSmallNumbers(t *testing.T) {
	for p, is := range sieve(1 << 22) {
		if Prime(uint64(p)) != is {
			t.Fatal(p, !is)
		}
	}
}

// P6.3: numbers next to powers of 2, up to 2^31, and drawn ones below it.
func TestPrimeOfGreatNumbers(t *testing.T) {
	for _, middle := range []uint64{1 << 23, 1 << 24, 3 << 24, 1 << 29, 1 << 30, 3 << 29, limit} {
		for p := middle - 200; p < middle+200; p++ {
			if Prime(p) != (p < limit && hasNoDivisor(p)) {
				t.Fatal(p)
			}
		}
	}
	source := rand.New(rand.NewSource(63))
	for range 3000 {
		p := uint64(source.Intn(limit))
		if Prime(p) != hasNoDivisor(p) {
			t.Fatal(p)
		}
	}
}

// P6.3: squares of primes, and products of neighbours, have no divisor below them.
func TestPrimeOfSquares(t *testing.T) {
	last := uint64(2)
	for p, is := range sieve(46341) {
		if !is {
			continue
		}
		if q := uint64(p); Prime(q*q) || Prime(q*last) {
			t.Fatal(q, last)
		}
		last = uint64(p)
	}
}

// P6.3: numbers that other ways take for primes: Fermat's, Carmichael's, those of
// Miller and Rabin by fewer bases, of Lucas, of Perrin, and squares by Wieferich.
func TestPrimeOfFalseOnes(t *testing.T) {
	for _, p := range []uint64{
		341, 561, 645, 1105, 1387, 1729, 1905, 2465, 2821, 6601, 8911, 10585, 15841, 29341, 41041, 46657, 52633, 62745, 63973, 75361,
		2047, 3277, 4033, 4681, 8321, 15841, 29341, 42799, 49141, 52633, 65281, 74665, 80581, 85489, 88357, 90751,
		1373653, 1530787, 1987021, 2284453, 3116107, 5173601, 6787327, 11541307, 13694761, 15978007, 16070429, 16879501,
		25326001, 161304001, 960946321, 1157839381, 121, 703, 1891, 3281, 8401, 781, 1541, 5461, 25, 325, 2101,
		314821, 873181, 1194649, 12327121, 825265, 321197185, 9080191,
		323, 377, 1159, 1829, 3827, 5459, 5777, 9071, 9179, 10877, 705, 2465, 2737, 3745, 4181,
		271441, 904631, 16532714, 24658561, 27422714, 27664033, 46672291, 102690901, 130944133, 196075949, 214038533, 517697641, 545670533, 801123451, 855073301, 903136901, 970355431,
		999941 * 1999, 1299709 * 3, 46337 * 46327, 32749 * 65521,
	} {
		if hasNoDivisor(p) {
			t.Fatal("this list is wrong", p)
		}
		if Prime(p) {
			t.Error(p)
		}
	}
}

// P6.3: products of two primes, one less 1 a multiple of the other less 1, are of
// the sort that Miller and Rabin's way takes for primes by few bases.
func TestPrimeOfLikeProducts(t *testing.T) {
	is := sieve(1 << 22)
	for p := uint64(3); p < 46341; p += 2 {
		for k := uint64(2); is[p] && k < 60; k++ {
			q := k*(p-1)/2 + 1
			if p*q < limit && q > 1 && Prime(p*q) {
				t.Fatal(p, q)
			}
		}
	}
}

// P6.3: none from 2^31 on is one, though there are primes among them.
func TestPrimeAbove(t *testing.T) {
	for _, p := range []uint64{
		limit, limit + 11, limit + 45, 3215031751, 4294967291, 1 << 32, 1<<32 + 2, 1<<32 + 3, 1<<32 + 5, 1<<32 + 7, 1<<32 + 15, 1<<32 + limit - 1,
		1<<33 + 2, 1<<33 + 17, 1<<61 - 1, 1 << 63, 1<<63 + 2, 1<<63 + 3, 1<<63 + 29, top - 58, top - 1, top, 4294967291 * 4294967291,
	} {
		if Prime(p) {
			t.Error(p)
		}
	}
}

// P6.3: Next of small numbers, and below the greatest prime.
func TestNext(t *testing.T) {
	for _, c := range [][2]uint64{
		{0, 2}, {1, 2}, {2, 3}, {3, 5}, {4, 5}, {5, 7}, {6, 7}, {7, 11}, {13, 17}, {113, 127}, {114, 127}, {126, 127}, {127, 131},
		{31397, 31469}, {370261, 370373}, {20831323, 20831533}, {1 << 16, 65537}, {1 << 30, 1073741827},
		{limit - 20, limit - 19}, {limit - 19, limit - 1}, {limit - 18, limit - 1}, {limit - 3, limit - 1}, {limit - 2, limit - 1},
	} {
		if p, ok := Next(c[0]); !ok || p != c[1] {
			t.Error(c, p, ok)
		}
	}
}

// P6.3: Next leaves none out.
func TestNextOfAll(t *testing.T) {
	is := sieve(1<<18 + 100)
	want := uint64(0)
	for p := 1 << 18; p >= 0; p-- {
		if want > 0 {
			if q, ok := Next(uint64(p)); !ok || q != want {
				t.Fatal(p, q, ok)
			}
		}
		if is[p] {
			want = uint64(p)
		}
	}
}

// P6.3: there is none from the greatest prime on.
func TestNextAbove(t *testing.T) {
	for _, p := range []uint64{limit - 1, limit, limit + 10, limit + 11, 1<<32 - 1, 1 << 32, 1<<32 + 14, 1<<63 - 1, 1 << 63, top - 59, top - 1, top} {
		if q, ok := Next(p); ok || q != 0 {
			t.Error(p, q, ok)
		}
	}
}
