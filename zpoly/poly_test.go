package zpoly_test

import (
	"math"
	"math/big"
	"math/rand"
	"slices"
	"testing"

	"quincunx/fpoly"
	"quincunx/gfp"
	"quincunx/zint"
	"quincunx/zpoly"
)

// P10.1: Of is the list: of no numbers, with noughts at the end, and of the least and
// the greatest numbers.
func TestOf(t *testing.T) {
	for _, c := range [][]int64{
		nil, {}, {0}, {0, 0, 0}, {1}, {-1}, {1, 0}, {0, 1}, {0, 0, -5}, {1, 2, 3}, {3, 0, 0, -2, 0, 0}, {math.MinInt64}, {math.MaxInt64}, {math.MinInt64, math.MaxInt64, 0},
		{0, math.MinInt64, math.MinInt64}, {math.MinInt64 + 1, -1, 0, 1}, {1 << 32, -1 << 32, 7},
	} {
		expect(t, "Of", zpoly.Of(c...), of(c...))
	}
	expectNothing(t, "Of", zpoly.Of())
	expectNothing(t, "Of", zpoly.Of(0))
	source := rand.New(rand.NewSource(110))
	for range 500 {
		l := make([]int64, source.Intn(9))
		for i := range l {
			l[i] = int64(source.Uint64()) >> source.Intn(64)
		}
		kept := slices.Clone(l)
		expect(t, "Of", zpoly.Of(l...), of(l...))
		if !slices.Equal(l, kept) {
			t.Fatal("an argument is changed", l, kept)
		}
	}
}

// P10.1: lists that are easily made normal.
func TestNormAndDegree(t *testing.T) {
	for _, c := range []struct {
		a, normal zpoly.Poly
		degree    int
	}{
		{nil, nil, -1}, {zpoly.Poly{}, nil, -1}, {of(0), nil, -1}, {of(0, 0, 0), nil, -1}, {zpoly.Poly{long(true)}, nil, -1}, {zpoly.Poly{long(true, 0, 0), long(false, 0)}, nil, -1},
		{of(3), of(3), 0}, {of(-3, 0), of(-3), 0}, {of(0, 1), of(0, 1), 1}, {of(5, 0, 0, 0), of(5), 0}, {of(0, 0, 2, 0), of(0, 0, 2), 2}, {of(1, 0, 0, -1), of(1, 0, 0, -1), 3},
		{zpoly.Poly{long(false, 4, 0), long(true, 0), long(true, 9, 0, 0), long(true, 0, 0)}, of(4, 0, -9), 2}, {zpoly.Poly{long(true, 0, 0), long(false, 0, 1, 0)}, zpoly.Poly{{}, long(false, 0, 1)}, 1},
	} {
		got := zpoly.Norm(c.a)
		if !slices.EqualFunc(got, c.normal, func(x, y zint.Int) bool { return x.Neg == y.Neg && slices.Equal(x.A, y.A) }) {
			t.Error("Norm", c, got)
		}
		if degree := zpoly.Degree(c.a); degree != c.degree {
			t.Error("Degree", c, degree)
		}
	}
}

// checkForms holds Norm, Degree and Same of all ways to write a.
func checkForms(t *testing.T, a zpoly.Poly) {
	t.Helper()
	normal := normalOf(a)
	for _, b := range append(forms(a), a) {
		expect(t, "Norm", zpoly.Norm(b), a)
		if got := zpoly.Degree(b); got != len(normal)-1 {
			t.Fatal("Degree", b, got)
		}
		if !zpoly.Same(a, b) || !zpoly.Same(b, a) || !zpoly.Same(b, b) || !zpoly.Same(b, normal) {
			t.Fatal("not the same", a, b)
		}
	}
}

// P10.1: polynomials that are written in several ways.
func TestForms(t *testing.T) {
	source := rand.New(rand.NewSource(111))
	for _, a := range samples() {
		checkForms(t, a)
	}
	for range 500 {
		checkForms(t, drawn(source, 9, 3))
	}
}

// P10.1: all ways to write 0 are the same, and of the degree -1.
func TestNoughts(t *testing.T) {
	for _, a := range noughts() {
		expectNothing(t, "Norm", zpoly.Norm(a))
		expectNothing(t, "Derive", zpoly.Derive(a))
		expectInt(t, "Eval", zpoly.Eval(a, small(5)), new(big.Int))
		if zpoly.Degree(a) != -1 {
			t.Fatal(a)
		}
		for _, b := range noughts() {
			if !zpoly.Same(a, b) {
				t.Fatal(a, b)
			}
		}
	}
}

// P10.1: Same tells any two polynomials apart, by each of their numbers, their signs
// and their degrees.
func TestSameOfOthers(t *testing.T) {
	for _, a := range samples() {
		for _, b := range samples() {
			if zpoly.Same(a, b) != sameNumbers(numbersOf(a), numbersOf(b)) {
				t.Fatal(a, b)
			}
		}
		for i := range len(a) + 3 {
			other := append(slices.Clone(a), small(0), small(0), small(0))
			value := valueOf(other[i])
			for _, x := range []*big.Int{new(big.Int).Add(value, big.NewInt(1)), new(big.Int).Neg(value), new(big.Int).Lsh(value, 64)} {
				other[i] = intOf(x)
				isSame := x.Cmp(value) == 0
				if zpoly.Same(a, other) != isSame || zpoly.Same(other, a) != isSame {
					t.Fatal(a, other)
				}
			}
		}
	}
}

// valueAt sums up the numbers times the powers of x.
func valueAt(a []*big.Int, x *big.Int) *big.Int {
	value, power := new(big.Int), big.NewInt(1)
	for _, number := range a {
		value.Add(value, new(big.Int).Mul(number, power))
		power.Mul(power, x)
	}
	return value
}

// points holds numbers to take for x: 0, below 0, and of several words.
func points() []zint.Int {
	list := []zint.Int{small(1), small(-1), small(2), small(-2), small(10), small(math.MinInt64), small(math.MaxInt64), long(true, 3, 0), long(false, 0, 1), long(true, top, top, 1), long(false, 5, 0, 0)}
	return append(list, noughtInts()...)
}

// P10.1: values that are easily reckoned.
func TestEval(t *testing.T) {
	for i, c := range []struct {
		got  zint.Int
		want int64
	}{
		{zpoly.Eval(of(1, 2, 3), small(-2)), 9}, {zpoly.Eval(of(1, 2, 3), small(0)), 1}, {zpoly.Eval(of(-4, 2, 3), long(true, 0, 0)), -4}, {zpoly.Eval(of(1, 2, 3), small(1)), 6}, {zpoly.Eval(of(1, 2, 3), small(10)), 321},
		{zpoly.Eval(of(0, 1), small(-7)), -7}, {zpoly.Eval(of(0, 0, 0, -1), small(-3)), 27}, {zpoly.Eval(nil, small(3)), 0}, {zpoly.Eval(of(0, 0), small(0)), 0}, {zpoly.Eval(of(5), small(99)), 5},
		{zpoly.Eval(of(-6, 1, 1), small(2)), 0}, {zpoly.Eval(of(-6, 1, 1), small(-3)), 0}, {zpoly.Eval(zpoly.Poly{long(true, 4, 0), long(false, 1, 0), long(true, 0)}, long(false, 4, 0, 0)), 0},
	} {
		expectInt(t, "Eval "+string(rune('a'+i)), c.got, big.NewInt(c.want))
	}
}

// P10.1: samples and drawn ones, at all points.
func TestEvalOfSamples(t *testing.T) {
	source := rand.New(rand.NewSource(112))
	for _, a := range samples() {
		for _, x := range points() {
			expectInt(t, "Eval", zpoly.Eval(a, x), valueAt(numbersOf(a), valueOf(x)))
		}
	}
	for range 2000 {
		a, x := drawn(source, 9, 3), drawnInt(source, 3)
		expectInt(t, "Eval", zpoly.Eval(a, x), valueAt(numbersOf(a), valueOf(x)))
	}
	a, x := drawnSmall(source, 300, 1<<40), drawnInt(source, 2)
	expectInt(t, "Eval", zpoly.Eval(a, x), valueAt(numbersOf(a), valueOf(x)))
}

// derivativeOf puts each number i times to the place ahead.
func derivativeOf(a []*big.Int) []*big.Int {
	var out []*big.Int
	for i, number := range a {
		if i > 0 {
			out = append(out, new(big.Int).Mul(big.NewInt(int64(i)), number))
		}
	}
	return out
}

// P10.1: derivatives that are easily reckoned, of polynomials of degree 0 too.
func TestDerive(t *testing.T) {
	for _, c := range [][2]zpoly.Poly{
		{nil, nil}, {of(0), nil}, {of(5), nil}, {of(-5, 0, 0), nil}, {of(5, 4), of(4)}, {of(0, -1), of(-1)}, {of(1, 1, 1, 1), of(1, 2, 3)}, {of(0, 0, 0, 0, 7), of(0, 0, 0, 28)},
		{of(3, 0, -2), of(0, -4)}, {of(1, 0, 0), nil}, {of(9, 8, 0, 7, 0), of(8, 0, 21)}, {zpoly.Poly{long(false, 0, 1)}, nil}, {of(0, 0, math.MinInt64), zpoly.Poly{{}, long(true, 0, 1)}},
		{zpoly.Poly{small(1), long(true, 2, 0), long(true, 0), long(false, 0, 1, 0)}, zpoly.Poly{small(-2), {}, long(false, 0, 3)}},
	} {
		expect(t, "Derive", zpoly.Derive(c[0]), c[1])
	}
	source := rand.New(rand.NewSource(113))
	list := samples()
	for range 500 {
		list = append(list, drawn(source, 12, 3))
	}
	for _, a := range append(list, drawnSmall(source, 1500, 1<<50)) {
		expectNumbers(t, "Derive", zpoly.Derive(a), derivativeOf(numbersOf(a)))
	}
}

// primes holds the least ones, some between, and the greatest ones.
func primes() []uint64 {
	return []uint64{2, 3, 5, 7, 11, 31, 257, 65537, 1<<30 + 3, greatest - 18, greatest}
}

// fieldOf is the field of a prime.
func fieldOf(t *testing.T, p uint64) gfp.Field {
	t.Helper()
	f, ok := gfp.New(p)
	if !ok {
		t.Fatal("no field of", p)
	}
	return f
}

// restsOf is the rests of a's numbers, from 0 on, without noughts at the end.
func restsOf(a []*big.Int, p uint64) fpoly.Poly {
	out := fpoly.Poly{}
	for _, number := range a {
		out = append(out, new(big.Int).Mod(number, new(big.Int).SetUint64(p)).Uint64())
	}
	for len(out) > 0 && out[len(out)-1] == 0 {
		out = out[:len(out)-1]
	}
	return out
}

// P10.1: elements that are easily told: of numbers below 0, and where the number at the
// degree is a multiple of the prime.
func TestReduce(t *testing.T) {
	for _, c := range []struct {
		p    uint64
		a    zpoly.Poly
		want fpoly.Poly
	}{
		{5, of(-1, 5, 7, 10), fpoly.Poly{4, 0, 2}}, {5, of(-1, 5, 7, 11), fpoly.Poly{4, 0, 2, 1}}, {2, of(-1, -2, -3), fpoly.Poly{1, 0, 1}}, {2, of(2, 4, 6), nil}, {2, of(0, 1, 2), fpoly.Poly{0, 1}}, {3, of(-1, -2, -3, 1), fpoly.Poly{2, 1, 0, 1}},
		{3, of(1, 3, -3), fpoly.Poly{1}}, {7, nil, nil}, {7, of(0, 0), nil}, {7, of(-49, 7, 0), nil}, {7, of(6, 0, 8), fpoly.Poly{6, 0, 1}}, {greatest, of(-1, greatest, greatest+1, -greatest), fpoly.Poly{greatest - 1, 0, 1}},
		{greatest, of(math.MinInt64, math.MaxInt64), fpoly.Poly{greatest - 2, 1}}, {greatest - 18, of(greatest-18, greatest), fpoly.Poly{0, 18}}, {3, zpoly.Poly{long(false, 0, 1), long(true, 0, 0, 1), long(true, 0)}, fpoly.Poly{1, 2}},
		{2, zpoly.Poly{long(true, 1, 0), long(true, 0, 1, 0)}, fpoly.Poly{1}}, {7, zpoly.Poly{long(true, 0, 0), long(true, 1, 0, 0)}, fpoly.Poly{0, 6}},
	} {
		if got := zpoly.Reduce(c.a, fieldOf(t, c.p)); !slices.Equal(got, c.want) {
			t.Error(c, got)
		}
	}
}

// P10.1: samples and drawn ones, over all fields; a zero Field is that of 2.
func TestReduceOfSamples(t *testing.T) {
	source := rand.New(rand.NewSource(114))
	list := samples()
	for range 500 {
		list = append(list, drawn(source, 9, 3))
	}
	for _, a := range list {
		for _, p := range primes() {
			multiple := append(slices.Clone(numbersOf(a)), new(big.Int).Mul(big.NewInt(-3), new(big.Int).SetUint64(p)))
			for _, b := range []zpoly.Poly{a, polyOf(multiple), written(polyOf(multiple), 1)} {
				if got := zpoly.Reduce(b, fieldOf(t, p)); !slices.Equal(got, restsOf(numbersOf(a), p)) {
					t.Fatal(p, b, got)
				}
			}
		}
		if got := zpoly.Reduce(a, gfp.Field{}); !slices.Equal(got, restsOf(numbersOf(a), 2)) {
			t.Fatal("a zero Field", a, got)
		}
	}
}
