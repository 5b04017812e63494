package fpoly_test

import (
	"math"
	"math/rand"
	"slices"
	"testing"

	"quincunx/fpoly"
	"quincunx/gfp"
)

// told is all that the calls answer of two polynomials, a word and an exponent.
type told struct {
	lists  []fpoly.Poly
	degree int
	value  uint64
	oks    [4]bool
}

func tell(f gfp.Field, a, b fpoly.Poly, c uint64, n int) told {
	quotient, rest, divOk := fpoly.DivMod(f, a, b)
	g, s, u := fpoly.Xgcd(f, a, b)
	power, powOk := fpoly.PowMod(f, a, n, b)
	return told{
		lists: []fpoly.Poly{
			fpoly.Norm(f, a), fpoly.Add(f, a, b), fpoly.Sub(f, a, b), fpoly.Scale(f, a, c), fpoly.Mul(f, a, b), quotient, rest, fpoly.Monic(f, a),
			fpoly.Gcd(f, a, b), g, s, u, fpoly.Lcm(f, a, b), fpoly.Derive(f, a), power,
		},
		degree: fpoly.Degree(f, a),
		value:  fpoly.Eval(f, a, c),
		oks:    [4]bool{divOk, powOk, fpoly.Same(f, a, b), fpoly.Irreducible(f, a)},
	}
}

func sameLists(a, b []fpoly.Poly) bool {
	return slices.EqualFunc(a, b, func(x, y fpoly.Poly) bool { return slices.Equal(x, y) })
}

func (a told) is(b told) bool {
	return sameLists(a.lists, b.lists) && a.degree == b.degree && a.value == b.value && a.oks == b.oks
}

func clones(list []fpoly.Poly) []fpoly.Poly {
	out := make([]fpoly.Poly, len(list))
	for i, a := range list {
		out[i] = slices.Clone(a)
	}
	return out
}

// guarded is a's copy, with spare room that isn't 0: the whole of it.
func guarded(a fpoly.Poly) fpoly.Poly {
	return append(slices.Clone(a), 0xabcdef, 0xabcdef, 0xabcdef, 0xabcdef)
}

// cut is the whole without the spare room that guarded made.
func cut(whole fpoly.Poly) fpoly.Poly {
	return whole[:len(whole)-4]
}

// spoil writes over an answer's words, and its spare room.
func spoil(a fpoly.Poly) {
	words := a[:cap(a)]
	for i := range words {
		words[i] = 0x5555
	}
}

// checkNew spoils one answer after the other, and fails if a whole one, or a later
// answer, is changed by that.
func checkNew(t *testing.T, answers, wholes []fpoly.Poly) {
	t.Helper()
	were, kept := clones(wholes), clones(answers)
	for i, answer := range answers {
		spoil(answer)
		if !sameLists(wholes, were) {
			t.Fatal("an argument is changed", were, i)
		}
		if !sameLists(answers[i+1:], kept[i+1:]) {
			t.Fatal("two answers share memory", were, i)
		}
	}
}

// R5, R7: arguments and their spare room stay, answers are new memory, that no two of
// them share, and come again.
func TestArgumentsStay(t *testing.T) {
	for _, p := range []uint64{2, 3, 7, greatest} {
		f := fieldOf(t, p)
		for i, a := range samples(p) {
			for k, b := range samples(p) {
				wholes := []fpoly.Poly{guarded(a), guarded(b)}
				were := clones(wholes)
				left, right, n := cut(wholes[0]), cut(wholes[1]), (i+k)%7-1
				first := tell(f, left, right, 3, n)
				if !sameLists(wholes, were) {
					t.Fatal("an argument is changed", p, a, b)
				}
				kept := first
				kept.lists = clones(first.lists)
				checkNew(t, first.lists, wholes)
				if !tell(f, left, right, 3, n).is(kept) {
					t.Fatal("another answer", p, a, b)
				}
			}
		}
	}
}

// R5: nothing that is handed in is kept: what is written there later changes no
// answer.
func TestNothingIsKept(t *testing.T) {
	source := rand.New(rand.NewSource(104))
	for _, p := range primes() {
		f := fieldOf(t, p)
		for range 40 {
			a, b := drawn(source, p, source.Intn(9)), drawn(source, p, source.Intn(9))
			first := tell(f, a, b, 5, 6)
			kept := first
			kept.lists = clones(first.lists)
			other, another := slices.Clone(a), slices.Clone(b)
			spoil(a)
			spoil(b)
			if !first.is(kept) || !tell(f, other, another, 5, 6).is(kept) {
				t.Fatal(p, other, another)
			}
		}
	}
}

// R5: one list handed in twice is two arguments, and so are lists that share words.
func TestArgumentsThatShare(t *testing.T) {
	for _, p := range primes() {
		f := fieldOf(t, p)
		for _, a := range samples(p) {
			for _, b := range []fpoly.Poly{a, a[:len(a)/2], a[len(a)/2:], a[:0]} {
				if !tell(f, a, b, 2, 3).is(tell(f, slices.Clone(a), slices.Clone(b), 2, 3)) || !tell(f, b, a, 2, 3).is(tell(f, slices.Clone(b), slices.Clone(a), 2, 3)) {
					t.Fatal(p, a, b)
				}
			}
		}
	}
}

// A polynomial that isn't normal is the same as its normal one, in all calls; what is
// answered is normal. R5: nil and empty mean the same.
func TestNormalOrNot(t *testing.T) {
	source := rand.New(rand.NewSource(105))
	for _, p := range []uint64{2, 3, 7, greatest} {
		f := fieldOf(t, p)
		for i, a := range samples(p) {
			for k, b := range samples(p) {
				c := drawnWord(source, p)
				answers := tell(f, a, b, c, 5)
				first, second := forms(p, a), forms(p, b)
				if !tell(f, first[(i+3*k)%7], second[(5*i+k)%7], c, 5).is(answers) || !tell(f, first[0], second[0], c%p, 5).is(answers) {
					t.Fatal("how it is written tells", p, a, b)
				}
				for at, answer := range answers.lists {
					if !slices.Equal(answer, normalOf(p, answer)) {
						t.Fatal("not normal", p, a, b, at, answer)
					}
				}
			}
			if !tell(f, a, nil, 1, 2).is(tell(f, a, fpoly.Poly{}, 1, 2)) || !tell(f, nil, a, 1, 2).is(tell(f, fpoly.Poly{}, a, 1, 2)) {
				t.Fatal("nil and empty", p, a)
			}
		}
	}
}

// A zero Field is that of 2, in all calls.
func TestZeroField(t *testing.T) {
	source := rand.New(rand.NewSource(106))
	two := fieldOf(t, 2)
	for range 500 {
		a, b := drawn(source, 2, source.Intn(9)), drawn(source, 2, source.Intn(9))
		c, n := source.Uint64(), source.Intn(9)-1
		if !tell(gfp.Field{}, a, b, c, n).is(tell(two, a, b, c, n)) {
			t.Fatal(a, b, c, n)
		}
	}
	checkTwo(t, gfp.Field{}, fpoly.Poly{1, 1}, fpoly.Poly{1, 1, 1})
	checkEuclid(t, gfp.Field{}, fpoly.Poly{1, 0, 1}, fpoly.Poly{1, 1})
	if !fpoly.Irreducible(gfp.Field{}, fpoly.Poly{1, 1, 1}) || fpoly.Irreducible(gfp.Field{}, fpoly.Poly{1, 0, 1}) {
		t.Fatal("of degree 2")
	}
}

// R7: called again, and between the calls of other fields, a call answers the same.
func TestCalledAgain(t *testing.T) {
	source := rand.New(rand.NewSource(107))
	list := primes()
	for range 300 {
		p, q := list[source.Intn(len(list))], list[source.Intn(len(list))]
		f, other := fieldOf(t, p), fieldOf(t, q)
		a, b, c, n := drawn(source, p, source.Intn(9)), drawn(source, p, source.Intn(9)), source.Uint64(), source.Intn(99)
		first := tell(f, a, b, c, n)
		tell(other, b, a, c, n)
		if !tell(f, a, b, c, n).is(first) || !tell(fieldOf(t, p), a, b, c, n).is(first) {
			t.Fatal(p, q, a, b, c, n)
		}
	}
}

// R1, R3: all arguments are answered; beside false there is nothing.
func TestAllArguments(t *testing.T) {
	words := []uint64{0, 1, 2, 3, greatest - 1, greatest, 1 << 31, top - 1, top}
	exponents := []int{0, 1, -1, math.MaxInt, math.MinInt}
	for _, p := range primes() {
		f := fieldOf(t, p)
		for code := range 9 * 9 * 9 {
			a := fpoly.Poly{words[code%9], words[code/9%9], words[code/81]}
			b := fpoly.Poly{words[code/9%9], words[code/27%9]}
			for i, n := range exponents {
				answers := tell(f, a[:code%4], b[:(code+i)%3], words[(code+i)%9], n)
				if !answers.oks[0] && len(answers.lists[5])+len(answers.lists[6]) != 0 || !answers.oks[1] && len(answers.lists[14]) != 0 {
					t.Fatal("something beside false", p, a, b, n)
				}
			}
		}
	}
}

// R1: long lists are answered, up to the greatest degree that the language multiplies,
// and a longer one.
func TestLongLists(t *testing.T) {
	source := rand.New(rand.NewSource(108))
	for _, p := range []uint64{2, greatest} {
		f := fieldOf(t, p)
		a, b := drawnMonic(source, p, 1000), drawnMonic(source, p, 900)
		quotient, rest, ok := fpoly.DivMod(f, a, b)
		if !ok {
			t.Fatal(p)
		}
		expect(t, "q b + r", f, fpoly.Add(f, fpoly.Mul(f, quotient, b), rest), a)
		g, s, u := fpoly.Xgcd(f, a, b)
		expect(t, "s a + t b", f, fpoly.Add(f, fpoly.Mul(f, s, a), fpoly.Mul(f, u, b)), g)
		if power, ok := fpoly.PowMod(f, b, math.MaxInt, a); !ok || fpoly.Degree(f, power) >= 1000 {
			t.Fatal(p, power, ok)
		}
		nought := append(make(fpoly.Poly, 100000), 1)
		if fpoly.Irreducible(f, nought) || fpoly.Degree(f, fpoly.Derive(f, nought)) > 99999 || fpoly.Eval(f, nought, 1) != 1 {
			t.Fatal(p)
		}
	}
}
