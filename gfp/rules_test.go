package gfp_test

import (
	"math"
	"math/rand"
	"slices"
	"testing"

	"quincunx/gfp"
	"quincunx/nat"
	"quincunx/zint"
)

// told is all that a field answers of two words and an exponent.
type told struct {
	p, norm, sum, difference, negative, product, inverse, power uint64
}

func tell(f gfp.Field, a, b uint64, n int) told {
	return told{f.P(), f.Norm(a), f.Add(a, b), f.Sub(a, b), f.Neg(a), f.Mul(a, b), f.Inv(a), f.Pow(a, n)}
}

// All that is answered of words is an element, and hangs on their rests alone.
func TestAnswersAreElements(t *testing.T) {
	source := rand.New(rand.NewSource(90))
	for _, p := range primes() {
		f := fieldOf(t, p)
		list := words(p)
		for _, a := range list {
			b, n := list[source.Intn(len(list))], source.Intn(100)-50
			answers := tell(f, a, b, n)
			for _, c := range []uint64{answers.norm, answers.sum, answers.difference, answers.negative, answers.product, answers.inverse, answers.power} {
				if c >= p {
					t.Fatal("no element", p, a, b, n, answers)
				}
			}
			if tell(f, a%p, b%p, n) != answers || tell(f, a%p+3*p, b%p+top/p/2*p, n) != answers {
				t.Fatal("how it is written tells", p, a, b, n)
			}
		}
	}
}

// R7: called again, and between the calls of other fields, a field answers the same.
func TestCalledAgain(t *testing.T) {
	source := rand.New(rand.NewSource(91))
	list := primes()
	for range 2000 {
		p, q := list[source.Intn(len(list))], list[source.Intn(len(list))]
		f, g := fieldOf(t, p), fieldOf(t, q)
		a, b, n := drawn(source, p), drawn(source, p), source.Intn(200)-100
		first := tell(f, a, b, n)
		tell(g, b, a, n)
		other := f
		if tell(f, a, b, n) != first || tell(other, a, b, n) != first || tell(fieldOf(t, p), a, b, n) != first {
			t.Fatal(p, q, a, b, n)
		}
	}
}

// R5, R7: Of leaves its argument and the spare room behind it, keeps nothing of it,
// and answers the same again.
func TestOfLeavesItsArgument(t *testing.T) {
	source := rand.New(rand.NewSource(92))
	for _, p := range primes() {
		f := fieldOf(t, p)
		for n := range 8 {
			whole := drawnInt(source, n+3)
			were := slices.Clone(whole.A)
			a := zint.Int{Neg: whole.Neg, A: whole.A[:n]}
			first := f.Of(a)
			if !slices.Equal(whole.A, were) {
				t.Fatal("an argument is changed", p, were)
			}
			if f.Of(a) != first || f.Of(longer(a, 1)) != first || f.Of(zint.Int{Neg: a.Neg, A: slices.Clone(a.A)}) != first {
				t.Fatal("another answer", p, were)
			}
			clear(whole.A)
			if f.Of(a) != 0 {
				t.Fatal("it is kept", p, were)
			}
		}
	}
}

// R1: a field that isn't there answers as that of 2, at all arguments.
func TestNoFieldAnswers(t *testing.T) {
	for _, p := range []uint64{0, 1, 4, 91, 1 << 31, 2147483659, top} {
		f, ok := gfp.New(p)
		if ok {
			t.Fatal(p)
		}
		for _, a := range []uint64{0, 1, 2, 3, greatest, 1 << 31, top - 1, top} {
			for _, n := range []int{0, 1, -1, math.MaxInt, math.MinInt} {
				if tell(f, a, top-a, n) != tell(gfp.Field{}, a, top-a, n) {
					t.Fatal(p, a, n)
				}
			}
		}
		if f.Of(zint.Int{Neg: true, A: nat.Nat{top, top}}) != 1 || f.Of(zint.Int{}) != 0 {
			t.Fatal(p)
		}
	}
}
