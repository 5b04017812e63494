package fpoly_test

import (
	"math/big"
	"math/rand"
	"slices"
	"testing"

	"quincunx/fpoly"
	"quincunx/gfp"
)

const (
	top      = 1<<64 - 1
	greatest = 1<<31 - 1
)

// primes holds the least ones, some between, and the greatest ones.
func primes() []uint64 {
	return []uint64{2, 3, 5, 7, 11, 31, 257, 65537, 1<<30 + 3, greatest - 18, greatest}
}

// fieldOf is the field of a prime.
func fieldOf(t *testing.T, p uint64) gfp.Field {
	t.Helper()
	f, ok := gfp.New(p)
	if !ok {
		t.Fatal("no field of", p)
	}
	return f
}

// normalOf is the normal list of the polynomial that a stands for.
func normalOf(p uint64, a fpoly.Poly) fpoly.Poly {
	out := fpoly.Poly{}
	for _, word := range a {
		out = append(out, word%p)
	}
	for len(out) > 0 && out[len(out)-1] == 0 {
		out = out[:len(out)-1]
	}
	return out
}

// expect fails unless got is, word by word, the normal list of want's polynomial.
func expect(t *testing.T, call string, f gfp.Field, got, want fpoly.Poly) {
	t.Helper()
	if !slices.Equal(got, normalOf(f.P(), want)) {
		t.Fatalf("%s by %d: %v, and not %v", call, f.P(), got, normalOf(f.P(), want))
	}
}

// expectNothing fails unless a polynomial is answered that has no elements.
func expectNothing(t *testing.T, call string, got fpoly.Poly) {
	t.Helper()
	if len(got) != 0 {
		t.Fatal(call, got)
	}
}

// sumOf is a + c b, place by place.
func sumOf(p uint64, a, b fpoly.Poly, c uint64) fpoly.Poly {
	out := make(fpoly.Poly, max(len(a), len(b)))
	for i := range out {
		if i < len(a) {
			out[i] = a[i] % p
		}
		if i < len(b) {
			out[i] = (out[i] + b[i]%p*(c%p)%p) % p
		}
	}
	return normalOf(p, out)
}

// productOf sums up the products of all pairs of elements.
func productOf(p uint64, a, b fpoly.Poly) fpoly.Poly {
	out := make(fpoly.Poly, len(a)+len(b))
	for i, x := range a {
		for k, y := range b {
			out[i+k] = (out[i+k] + x%p*(y%p)%p) % p
		}
	}
	return normalOf(p, out)
}

// inverseOf is the element whose product with a, which isn't 0, is 1.
func inverseOf(p, a uint64) uint64 {
	prime := new(big.Int).SetUint64(p)
	return new(big.Int).ModInverse(new(big.Int).SetUint64(a), prime).Uint64()
}

// restOf takes multiples of b, which isn't 0, from a, as long as it has its degree.
func restOf(p uint64, a, b fpoly.Poly) fpoly.Poly {
	a, b = normalOf(p, a), normalOf(p, b)
	inverse := inverseOf(p, b[len(b)-1])
	for len(a) >= len(b) {
		times := make(fpoly.Poly, len(a)-len(b)+1)
		times[len(times)-1] = a[len(a)-1] * inverse % p
		a = sumOf(p, a, productOf(p, times, b), p-1)
	}
	return a
}

// polyOf is the n digits of a code in the scale of p, the least one first.
func polyOf(p uint64, code, n int) fpoly.Poly {
	out := make(fpoly.Poly, n)
	for i := range out {
		out[i] = uint64(code) % p
		code /= int(p)
	}
	return out
}

// all holds all polynomials of n elements.
func all(p uint64, n int) []fpoly.Poly {
	var list []fpoly.Poly
	for code := range powerOf(int(p), n) {
		list = append(list, polyOf(p, code, n))
	}
	return list
}

func powerOf(a, n int) int {
	out := 1
	for range n {
		out *= a
	}
	return out
}

// monics holds all monic polynomials of that degree.
func monics(p uint64, degree int) []fpoly.Poly {
	list := all(p, degree)
	for i, a := range list {
		list[i] = append(a, 1)
	}
	return list
}

// forms holds ways to write a: with words that are no elements, and with noughts and
// multiples of the prime at the end.
func forms(p uint64, a fpoly.Poly) []fpoly.Poly {
	normal := normalOf(p, a)
	more, most := slices.Clone(normal), slices.Clone(normal)
	for i, word := range normal {
		more[i] = word + p*uint64(i+1)
		most[i] = word + (top/p-1)*p
	}
	return []fpoly.Poly{
		normal, more, most, append(slices.Clone(normal), 0), append(slices.Clone(normal), 0, 0, 0), append(slices.Clone(more), p),
		append(slices.Clone(most), 7*p, 0, top/p*p),
	}
}

// noughts holds ways to write 0.
func noughts(p uint64) []fpoly.Poly {
	return []fpoly.Poly{nil, {}, {0}, {0, 0, 0}, {p}, {2 * p, 0, top / p * p}, {0, p, 0}}
}

// samples holds polynomials of the least degrees, written in several ways, 0 among
// them.
func samples(p uint64) []fpoly.Poly {
	list := []fpoly.Poly{
		{1}, {p - 1}, {p + 1}, {2}, {top}, {0, 1}, {0, p - 1}, {1, 1}, {p - 1, 1}, {1, p - 1}, {0, 0, 1}, {1, 0, 1}, {p - 1, 0, 1}, {1, 2, 1}, {1, 1, 1}, {5, 3, 2, 0, 0},
		{3, 4, 5, 6, 7}, {p - 1, p - 1, p - 1, p - 1}, {1, p, 1, 0, p, 3, 2 * p}, {0, 0, 0, 1, 0}, {0, 0, 0, 0, 0, 0, 2}, {top, top, top}, {1, 0, 0, 0, 0, 0, 0, 0, p - 1},
	}
	return append(list, noughts(p)...)
}

// drawnWord is any word: an element of p, a multiple of it, or another one.
func drawnWord(source *rand.Rand, p uint64) uint64 {
	switch source.Intn(5) {
	case 0:
		return source.Uint64() % p
	case 1:
		return source.Uint64() / p * p
	case 2:
		return p - 1
	case 3:
		return source.Uint64() >> source.Intn(64)
	}
	return source.Uint64()
}

// drawn is n words of all kinds.
func drawn(source *rand.Rand, p uint64, n int) fpoly.Poly {
	a := make(fpoly.Poly, n)
	for i := range a {
		a[i] = drawnWord(source, p)
	}
	return a
}

// drawnMonic is a normal, monic polynomial of that degree.
func drawnMonic(source *rand.Rand, p uint64, degree int) fpoly.Poly {
	a := drawn(source, p, degree)
	for i, word := range a {
		a[i] = word % p
	}
	return append(a, 1)
}
