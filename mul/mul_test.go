package mul

import (
	"math/big"
	"slices"
	"testing"

	"quincunx/nat"
)

func checkMul(t *testing.T, a, b nat.Nat) {
	t.Helper()
	expect(t, "Mul", Mul(a, b), new(big.Int).Mul(valueOf(a), valueOf(b)))
}

// P2.1: Mul of short naturals, normal and not.
func TestMul(t *testing.T) {
	for _, a := range samples() {
		for _, b := range samples() {
			checkMul(t, a, b)
		}
	}
	if a := Mul(nat.Nat{top, top, 0}, nat.Nat{top, top}); !slices.Equal(a, nat.Nat{1, 0, top - 1, top}) {
		t.Error(a)
	}
	if len(Mul(nil, nat.Nat{1, 2})) != 0 || len(Mul(nat.Nat{0, 0}, nat.Nat{1, 2})) != 0 || len(Mul(nil, nil)) != 0 {
		t.Error("a product with 0")
	}
}

// P2.1: Mul at the lengths where numbers are cut.
func TestMulIsCut(t *testing.T) {
	for _, n := range sizes() {
		for _, m := range sizes() {
			for _, a := range patterns(n) {
				for _, b := range patterns(m) {
					checkMul(t, a, b)
				}
			}
		}
	}
}

// P2.1: Mul at every length from one that isn't cut to one that is cut twice.
func TestMulOfEachLength(t *testing.T) {
	for n := 1; n <= 2*short+2; n++ {
		list := patterns(n)
		for i, a := range list {
			checkMul(t, a, list[(i+1)%len(list)])
			checkMul(t, a, a)
		}
	}
}

// P2.1: Mul of naturals of very different lengths.
func TestMulOfDifferentLengths(t *testing.T) {
	long := patterns(20011)
	for _, n := range []int{1, 2, short - 1, short, short + 1, 3*short + 2, 5003} {
		for i, b := range patterns(n) {
			a := long[i]
			checkMul(t, a, b)
			same(t, "the other way round", Mul(b, a), Mul(a, b))
		}
	}
	if len(Mul(long[0], nil)) != 0 || len(Mul(make(nat.Nat, 1000), long[0])) != 0 {
		t.Error("a long product with 0")
	}
	same(t, "a 1", Mul(long[0], nat.Of(1)), long[0])
}

// P2.1: MaxBits is no bound of products.
func TestMulOfVeryManyWords(t *testing.T) {
	a, b := patterns(16400), patterns(33000)
	checkMul(t, a[0], a[1])
	checkMul(t, a[0], b[0])
	checkMul(t, a[4], b[3])
	expect(t, "Square", Square(b[0]), new(big.Int).Mul(valueOf(b[0]), valueOf(b[0])))
}

// P2.1: Mul of long naturals that aren't normal.
func TestMulNotNormal(t *testing.T) {
	for _, n := range []int{1, short, 3 * short} {
		a, b := patterns(n)[0], patterns(2 * short)[0]
		want := Mul(a, b)
		for _, more := range []int{1, short, 5 * short} {
			same(t, "noughts behind a", Mul(noughts(a, more), b), want)
			same(t, "noughts behind b", Mul(a, noughts(b, more)), want)
			same(t, "noughts behind both", Mul(noughts(a, more), noughts(b, more)), want)
		}
	}
	if a := Mul(make(nat.Nat, 3*short), make(nat.Nat, 3*short)); len(a) != 0 {
		t.Error(len(a))
	}
}

// P2.1: Square.
func TestSquare(t *testing.T) {
	list := samples()
	for _, n := range sizes() {
		list = append(list, patterns(n)...)
		list = append(list, noughts(patterns(n)[0], n))
	}
	for _, a := range list {
		expect(t, "Square", Square(a), new(big.Int).Mul(valueOf(a), valueOf(a)))
	}
	if a := Square(nat.Nat{top, 0}); !slices.Equal(a, nat.Nat{1, top - 1}) {
		t.Error(a)
	}
}
