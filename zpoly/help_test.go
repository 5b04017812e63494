package zpoly_test

import (
	"math"
	"math/big"
	"math/rand"
	"slices"
	"testing"

	"quincunx/nat"
	"quincunx/zint"
	"quincunx/zpoly"
)

const (
	top      = 1<<64 - 1
	greatest = 1<<31 - 1
)

// valueOf reckons a's number by layer 1's words alone.
func valueOf(a zint.Int) *big.Int {
	bytes := make([]byte, 0, 8*len(a.A))
	for _, w := range slices.Backward(a.A) {
		for shift := 56; shift >= 0; shift -= 8 {
			bytes = append(bytes, byte(w>>shift))
		}
	}
	x := new(big.Int).SetBytes(bytes)
	if a.Neg {
		x.Neg(x)
	}
	return x
}

// intOf is the normal whole number of x.
func intOf(x *big.Int) zint.Int {
	bytes := x.FillBytes(make([]byte, 8*((x.BitLen()+63)/64)))
	a := make(nat.Nat, len(bytes)/8)
	for i := range bytes {
		k := len(bytes) - 1 - i
		a[k/8] |= uint64(bytes[i]) << (8 * (k % 8))
	}
	return zint.Int{Neg: x.Sign() < 0, A: a}
}

// small is the number of x, told by its word.
func small(x int64) zint.Int {
	return intOf(big.NewInt(x))
}

// of is the list of these numbers, as it stands, noughts at its end too.
func of(l ...int64) zpoly.Poly {
	out := zpoly.Poly{}
	for _, x := range l {
		out = append(out, small(x))
	}
	return out
}

// polyOf is the list of these numbers, as it stands.
func polyOf(list []*big.Int) zpoly.Poly {
	out := zpoly.Poly{}
	for _, x := range list {
		out = append(out, intOf(x))
	}
	return out
}

// numbersOf is a's numbers up to its degree.
func numbersOf(a zpoly.Poly) []*big.Int {
	out := make([]*big.Int, 0, len(a))
	for _, number := range a {
		out = append(out, valueOf(number))
	}
	return cutNoughts(out)
}

// cutNoughts leaves away the noughts at the end.
func cutNoughts(list []*big.Int) []*big.Int {
	for len(list) > 0 && list[len(list)-1].Sign() == 0 {
		list = list[:len(list)-1]
	}
	return list
}

func normalOf(a zpoly.Poly) zpoly.Poly {
	return polyOf(numbersOf(a))
}

func isNormalInt(a zint.Int) bool {
	if len(a.A) == 0 {
		return !a.Neg
	}
	return a.A[len(a.A)-1] != 0
}

func isNormal(a zpoly.Poly) bool {
	return len(numbersOf(a)) == len(a) && !slices.ContainsFunc(a, func(x zint.Int) bool { return !isNormalInt(x) })
}

func sameInts(a, b []zint.Int) bool {
	return slices.EqualFunc(a, b, func(x, y zint.Int) bool { return x.Neg == y.Neg && slices.Equal(x.A, y.A) })
}

func sameNumbers(a, b []*big.Int) bool {
	return slices.EqualFunc(a, b, func(x, y *big.Int) bool { return x.Cmp(y) == 0 })
}

// expectNumbers fails unless got is normal, and has these numbers, noughts at their
// end left away.
func expectNumbers(t *testing.T, call string, got zpoly.Poly, want []*big.Int) {
	t.Helper()
	if !isNormal(got) {
		t.Fatalf("%s: %.200v isn't normal", call, got)
	}
	if !sameNumbers(numbersOf(got), cutNoughts(want)) {
		t.Fatalf("%s: %.200v, and not %.200v", call, numbersOf(got), want)
	}
}

// expect fails unless got is normal, and want's polynomial.
func expect(t *testing.T, call string, got, want zpoly.Poly) {
	t.Helper()
	expectNumbers(t, call, got, numbersOf(want))
}

// expectInt fails unless got is normal, and of the number want.
func expectInt(t *testing.T, call string, got zint.Int, want *big.Int) {
	t.Helper()
	if !isNormalInt(got) || valueOf(got).Cmp(want) != 0 {
		t.Fatalf("%s: %.80s, and not %.80s, or not normal", call, valueOf(got), want)
	}
}

// expectNothing fails unless a polynomial is answered that has no numbers.
func expectNothing(t *testing.T, call string, got zpoly.Poly) {
	t.Helper()
	if len(got) != 0 {
		t.Fatal(call, got)
	}
}

// sumOf is a + c b, place by place.
func sumOf(a, b []*big.Int, c *big.Int) []*big.Int {
	out := make([]*big.Int, max(len(a), len(b)))
	for i := range out {
		out[i] = new(big.Int)
		if i < len(a) {
			out[i].Set(a[i])
		}
		if i < len(b) {
			out[i].Add(out[i], new(big.Int).Mul(c, b[i]))
		}
	}
	return cutNoughts(out)
}

// productOf sums up the products of all pairs of numbers.
func productOf(a, b []*big.Int) []*big.Int {
	out := make([]*big.Int, len(a)+len(b))
	for i := range out {
		out[i] = new(big.Int)
	}
	for i, x := range a {
		for k, y := range b {
			out[i+k].Add(out[i+k], new(big.Int).Mul(x, y))
		}
	}
	return cutNoughts(out)
}

// timesOf is c times a.
func timesOf(a []*big.Int, c *big.Int) []*big.Int {
	return sumOf(nil, a, c)
}

// contentOf is the greatest common divisor of all numbers.
func contentOf(a []*big.Int) *big.Int {
	out := new(big.Int)
	for _, x := range a {
		out.GCD(nil, nil, out, new(big.Int).Abs(x))
	}
	return out
}

// byNumber is a by a number that divides all of it.
func byNumber(a []*big.Int, x *big.Int) []*big.Int {
	out := make([]*big.Int, len(a))
	for i := range a {
		out[i] = new(big.Int).Quo(a[i], x)
	}
	return out
}

// primitiveOf is a by its content, with the sign of the last number.
func primitiveOf(a []*big.Int) []*big.Int {
	if len(a) == 0 {
		return nil
	}
	common := contentOf(a)
	if a[len(a)-1].Sign() < 0 {
		common.Neg(common)
	}
	return byNumber(a, common)
}

// fractionsOf is a as fractions.
func fractionsOf(a []*big.Int) []*big.Rat {
	out := make([]*big.Rat, len(a))
	for i, x := range a {
		out[i] = new(big.Rat).SetInt(x)
	}
	return out
}

// divide is quotient and rest among fractions, by b, which isn't 0.
func divide(a, b []*big.Rat) ([]*big.Rat, []*big.Rat) {
	rest := slices.Clone(a)
	quotient := make([]*big.Rat, max(0, len(a)-len(b)+1))
	for i := len(quotient) - 1; i >= 0; i-- {
		quotient[i] = new(big.Rat).Quo(rest[i+len(b)-1], b[len(b)-1])
		for k, x := range b {
			rest[i+k] = new(big.Rat).Sub(rest[i+k], new(big.Rat).Mul(quotient[i], x))
		}
	}
	for len(rest) > 0 && rest[len(rest)-1].Sign() == 0 {
		rest = rest[:len(rest)-1]
	}
	return quotient, rest
}

// wholesOf is a, if all its numbers are whole ones.
func wholesOf(a []*big.Rat) ([]*big.Int, bool) {
	out := make([]*big.Int, len(a))
	for i, x := range a {
		if !x.IsInt() {
			return nil, false
		}
		out[i] = new(big.Int).Set(x.Num())
	}
	return out, true
}

// clearOf is a times all its denominators.
func clearOf(a []*big.Rat) []*big.Int {
	common := big.NewRat(1, 1)
	for _, x := range a {
		common.Mul(common, new(big.Rat).SetInt(x.Denom()))
	}
	scaled := make([]*big.Rat, len(a))
	for i, x := range a {
		scaled[i] = new(big.Rat).Mul(x, common)
	}
	out, _ := wholesOf(scaled)
	return out
}

// gcdOf goes Euclid's way among fractions; what it comes to is made primitive, and
// gets what both contents have in common.
func gcdOf(a, b []*big.Int) []*big.Int {
	rest, next := a, b
	for len(next) > 0 {
		_, left := divide(fractionsOf(rest), fractionsOf(next))
		rest, next = next, primitiveOf(clearOf(left))
	}
	common := new(big.Int).GCD(nil, nil, contentOf(a), contentOf(b))
	return timesOf(primitiveOf(rest), common)
}

// long is a number of several words, of either sign.
func long(isNeg bool, words ...uint64) zint.Int {
	return zint.Int{Neg: isNeg, A: words}
}

// longer is a with n noughts behind it: the same number.
func longer(a zint.Int, n int) zint.Int {
	return zint.Int{Neg: a.Neg, A: append(slices.Clone(a.A), make(nat.Nat, n)...)}
}

// noughtInts holds the ways to write 0 as a number.
func noughtInts() []zint.Int {
	var list []zint.Int
	for _, a := range []nat.Nat{nil, {}, {0}, {0, 0, 0}} {
		list = append(list, zint.Int{A: a}, zint.Int{Neg: true, A: a})
	}
	return list
}

// noughts holds ways to write 0.
func noughts() []zpoly.Poly {
	all := noughtInts()
	list := []zpoly.Poly{nil, {}, all, {all[0], all[0], all[0]}}
	for _, x := range all {
		list = append(list, zpoly.Poly{x})
	}
	return append(list, zpoly.Poly{all[1], all[6]}, zpoly.Poly{all[5], all[2], all[7]})
}

// written is a with each number longer, and noughts of all kinds in the place of those
// that are 0, from the one of that place on.
func written(a zpoly.Poly, from int) zpoly.Poly {
	out := make(zpoly.Poly, len(a))
	for i, number := range a {
		out[i] = longer(number, (i+from)%3)
		if valueOf(number).Sign() == 0 {
			out[i] = noughtInts()[(i+from)%8]
		}
	}
	return out
}

// forms holds ways to write a: with numbers that aren't normal, and noughts at the end.
func forms(a zpoly.Poly) []zpoly.Poly {
	normal := normalOf(a)
	list := []zpoly.Poly{normal, append(slices.Clone(normal), small(0)), append(slices.Clone(normal), noughtInts()...)}
	for from := range 4 {
		list = append(list, written(normal, from), append(written(normal, from+2), noughtInts()[from:2*from+1]...))
	}
	return list
}

// samples holds polynomials of the least degrees, with numbers of one word and of
// several, 0 among them, normal and not.
func samples() []zpoly.Poly {
	list := []zpoly.Poly{
		of(1), of(-1), of(2), of(-3), of(6), of(0, 1), of(0, -1), of(1, 1), of(-1, 1), of(1, -1), of(0, 0, 1), of(1, 0, 1), of(-1, 0, 1), of(1, 2, 1), of(-6, 0, 6), of(4, 4), of(-2, -2),
		of(1, 0, 0, 1), of(1, 2), of(3, -7, 0, 2), of(5, 3, 2, 0, 0), of(0, 0, 0, 1, 0), of(math.MinInt64, math.MaxInt64), of(math.MaxInt64), of(12, 18, -30), of(0, greatest), of(1, greatest),
		of(1, 2, 3, 4, 5, 6, 7), of(-1, 0, 0, 0, 0, 0, 0, 0, 1), of(0, 2, 0, 0, 4, 0),
		{long(false, 0, 1)}, {long(true, top, top)}, {long(true, 5), long(false, 0, 0, 1)}, {long(false, 0, 6), long(true, 0, 0, 4), long(false, 0, 10)}, {long(false, 1, 1), long(false, 1)},
		{long(true, 3, 0, 0), long(true), long(false, 7, 2, 0), long(true, 0, 0)}, {long(true, 0), long(true, 1, 0), long(true, 0, 0, 0)}, {long(false, 1<<63), long(true, 1<<63), long(false, 1, 0, 3)},
	}
	return append(list, noughts()...)
}

// all holds the lists of n numbers that are from least on, and not above most.
func all(least, most int64, n int) []zpoly.Poly {
	list := []zpoly.Poly{{}}
	for range n {
		var next []zpoly.Poly
		for _, a := range list {
			for x := least; x <= most; x++ {
				next = append(next, append(slices.Clone(a), small(x)))
			}
		}
		list = next
	}
	return list
}

// drawnInt is a whole number of at most n words, of either sign, maybe 0, and maybe
// not normal.
func drawnInt(source *rand.Rand, n int) zint.Int {
	a := make(nat.Nat, source.Intn(n+1))
	for i := range a {
		switch source.Intn(8) {
		case 0:
			a[i] = 0
		case 1:
			a[i] = top
		case 2, 3:
			a[i] = uint64(source.Intn(12))
		default:
			a[i] = source.Uint64() >> source.Intn(64)
		}
	}
	return zint.Int{Neg: source.Intn(2) == 0, A: a}
}

// drawn is a list of at most n numbers of at most so many words.
func drawn(source *rand.Rand, n, words int) zpoly.Poly {
	a := make(zpoly.Poly, source.Intn(n+1))
	for i := range a {
		a[i] = drawnInt(source, words)
	}
	return a
}

// drawnSmall is a polynomial of that degree, of numbers between -most and most.
func drawnSmall(source *rand.Rand, degree int, most int64) zpoly.Poly {
	a := zpoly.Poly{}
	for range degree {
		a = append(a, small(source.Int63n(2*most+1)-most))
	}
	last := 1 + source.Int63n(most)
	if source.Intn(2) == 0 {
		last = -last
	}
	return append(a, small(last))
}
