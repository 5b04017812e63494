package rat_test

import (
	"math/big"
	"math/rand"
	"testing"

	"quincunx/nat"
	"quincunx/rat"
	"quincunx/zint"
)

// P7.1: Make of all small numbers: their common divisor is found by counting.
func TestMakeOfSmallNumbers(t *testing.T) {
	for n := int64(-30); n <= 30; n++ {
		for d := int64(-30); d <= 30; d++ {
			got, ok := rat.Make(zint.Of(n), zint.Of(d))
			if d == 0 {
				expectNone(t, "Make", got, ok)
				continue
			}
			above, below := n, d
			if d < 0 {
				above, below = -n, -d
			}
			for k := int64(30); k > 1; k-- {
				if above%k == 0 && below%k == 0 {
					above, below = above/k, below/k
				}
			}
			if !ok {
				t.Fatal(n, d)
			}
			alike(t, "Make", got, over(above, below))
		}
	}
}

// P7.1: Make of samples, normal and not.
func TestMake(t *testing.T) {
	for _, a := range append(mixed(), noughts()...) {
		got, ok := rat.Make(a.N, a.D)
		if valueOf(a.D).Sign() == 0 {
			expectNone(t, "Make", got, ok)
			continue
		}
		if !ok {
			t.Fatal(a)
		}
		expect(t, "Make", got, numberOf(a))
	}
	if a, ok := rat.Make(zint.Of(2), zint.Of(-4)); !ok || rat.Print(a) != "-1/2" {
		t.Error("the chapter's example", a, ok)
	}
}

// P7.1: Make by 0, however it is written, of any number, 0 too.
func TestMakeByNought(t *testing.T) {
	for _, nought := range noughtInts() {
		for _, a := range mixed() {
			got, ok := rat.Make(a.N, nought)
			expectNone(t, "Make", got, ok)
		}
	}
}

// P7.1: Make of long numbers with a long common divisor.
func TestMakeOfLongNumbers(t *testing.T) {
	source := rand.New(rand.NewSource(71))
	for _, n := range []int{1, 2, 3, 10, 60, 300} {
		common := drawnInt(source, n)
		a := rat.Rat{N: zint.Mul(common, drawnInt(source, n)), D: zint.Mul(common, drawnInt(source, n))}
		got, ok := rat.Make(a.N, a.D)
		if !ok {
			t.Fatal(n)
		}
		expect(t, "Make", got, numberOf(a))
		one, _ := rat.Make(common, common)
		alike(t, "a number over itself", one, over(1, 1))
	}
}

// P7.1: Of.
func TestOf(t *testing.T) {
	for _, a := range mixed() {
		expect(t, "Of", rat.Of(a.N), new(big.Rat).SetInt(valueOf(a.N)))
	}
	for _, nought := range noughtInts() {
		alike(t, "Of", rat.Of(nought), over(0, 1))
	}
}

func checkWhole(t *testing.T, a rat.Rat) {
	t.Helper()
	got, ok := rat.Whole(a)
	want := numberOf(a)
	if !want.IsInt() {
		if ok || got.Neg || len(got.A) > 0 {
			t.Fatal("Whole", a, got, ok)
		}
		return
	}
	if !ok {
		t.Fatal("Whole", a)
	}
	expectInt(t, "Whole", got, want.Num())
}

// P7.1: Whole of whole numbers, however they are written, and of others.
func TestWhole(t *testing.T) {
	for _, a := range append(append(mixed(), noughts()...), halves()...) {
		checkWhole(t, a)
		checkWhole(t, rat.Rat{N: a.N, D: longer(zint.Of(-1), 1)})
		checkWhole(t, rat.Rat{N: zint.Mul(a.N, a.D), D: a.D})
		for _, b := range forms(a) {
			checkWhole(t, b)
		}
	}
}

// P7.1: Sign of each pair of signs, and of 0.
func TestSign(t *testing.T) {
	for _, a := range mixed() {
		for _, b := range append(forms(a), a) {
			if got := rat.Sign(b); got != numberOf(a).Sign() {
				t.Fatal(b, got)
			}
		}
	}
	for _, a := range noughts() {
		if rat.Sign(a) != 0 {
			t.Error(a)
		}
	}
}

func checkCmp(t *testing.T, a, b rat.Rat) {
	t.Helper()
	want := numberOf(a).Cmp(numberOf(b))
	if got := rat.Cmp(a, b); got != want {
		t.Fatal("Cmp", a, b, got)
	}
	if got := rat.Cmp(b, a); got != -want {
		t.Fatal("Cmp the other way round", a, b, got)
	}
}

// P7.1: Cmp of samples, with each pair of signs, and of 0.
func TestCmp(t *testing.T) {
	for _, a := range append(mixed(), noughts()...) {
		for _, b := range mixed() {
			checkCmp(t, a, b)
		}
	}
}

// P7.1: Cmp of all small fractions.
func TestCmpOfSmallFractions(t *testing.T) {
	for code := range 9 * 9 * 9 * 9 {
		a := over(int64(code%9-4), int64(code/9%9-4))
		b := over(int64(code/81%9-4), int64(code/729-4))
		if got := rat.Cmp(a, b); got != numberOf(a).Cmp(numberOf(b)) {
			t.Fatal(a, b, got)
		}
	}
}

// P7.1: Cmp of fractions that are the same, but written otherwise.
func TestCmpOfTheSame(t *testing.T) {
	for _, a := range mixed() {
		for _, b := range forms(a) {
			for _, c := range append(forms(a), a) {
				if rat.Cmp(b, c) != 0 || rat.Cmp(c, b) != 0 {
					t.Fatal(b, c)
				}
			}
		}
	}
}

// neighbours holds pairs of fractions, the lesser one first, between which there is
// none with as short a D: the parts that are left of what divides each other.
func neighbours() [][2]rat.Rat {
	var list [][2]rat.Rat
	x, y := big.NewInt(0), big.NewInt(1)
	for n := range 800 {
		z := new(big.Int).Add(x, y)
		less, more := rat.Rat{N: intOf(x), D: intOf(y)}, rat.Rat{N: intOf(y), D: intOf(z)}
		if n%2 == 1 {
			less, more = more, less
		}
		list = append(list, [2]rat.Rat{less, more})
		x, y = y, z
	}
	return list
}

// P7.1: Cmp of fractions that are next to each other, above 0 and below.
func TestCmpOfNeighbours(t *testing.T) {
	minus := zint.Of(-1)
	for _, c := range neighbours() {
		less, more := c[0], c[1]
		for _, b := range append(forms(more), more) {
			if rat.Cmp(less, b) != -1 || rat.Cmp(b, times(less, minus)) != 1 {
				t.Fatal(less, b)
			}
		}
		below, above := rat.Rat{N: zint.Neg(more.N), D: more.D}, rat.Rat{N: less.N, D: zint.Neg(less.D)}
		if rat.Cmp(below, above) != -1 || rat.Cmp(above, below) != 1 {
			t.Fatal(below, above)
		}
	}
}

// checkFloor holds Floor and Round against a reckoning of their own.
func checkFloor(t *testing.T, a rat.Rat) {
	t.Helper()
	number := numberOf(a)
	below := new(big.Int).Div(number.Num(), number.Denom())
	expectInt(t, "Floor", rat.Floor(a), below)
	near := new(big.Rat).Add(number, big.NewRat(1, 2))
	expectInt(t, "Round", rat.Round(a), new(big.Int).Div(near.Num(), near.Denom()))
}

// P7.1: Floor and Round of whole numbers, of halves of odd ones, and of those next to
// them, above 0 and below.
func TestFloorAndRound(t *testing.T) {
	for _, a := range append(append(mixed(), noughts()...), halves()...) {
		checkFloor(t, a)
		checkFloor(t, rat.Rat{N: a.N, D: zint.Of(2)})
		checkFloor(t, rat.Rat{N: zint.Add(zint.Mul(a.N, zint.Of(2)), zint.Of(1)), D: zint.Of(-2)})
		for _, b := range forms(a) {
			checkFloor(t, b)
		}
	}
}

// P7.1: Floor and Round of numbers that are easily told.
func TestFloorAndRoundByHand(t *testing.T) {
	for _, c := range [][4]int64{
		{7, 2, 3, 4}, {-7, 2, -4, -3}, {7, -2, -4, -3}, {-7, -2, 3, 4}, {5, 2, 2, 3}, {-5, 2, -3, -2}, {1, 2, 0, 1}, {-1, 2, -1, 0}, {1, 3, 0, 0},
		{-1, 3, -1, 0}, {2, 3, 0, 1}, {-2, 3, -1, -1}, {2, 4, 0, 1}, {2, -4, -1, 0}, {6, 3, 2, 2}, {-6, 3, -2, -2}, {6, -3, -2, -2}, {5, 0, 0, 0}, {-5, 0, 0, 0},
	} {
		a := over(c[0], c[1])
		expectInt(t, "Floor", rat.Floor(a), big.NewInt(c[2]))
		expectInt(t, "Round", rat.Round(a), big.NewInt(c[3]))
	}
}

func checkBits(t *testing.T, a rat.Rat) {
	t.Helper()
	number := numberOf(a)
	if got, want := rat.Bits(a), max(number.Num().BitLen(), number.Denom().BitLen()); got != want {
		t.Fatal("Bits", a, got, want)
	}
}

// P7.1: Bits of fractions, normal and not: N's may be more, or D's.
func TestBits(t *testing.T) {
	for _, a := range mixed() {
		checkBits(t, a)
		for _, b := range forms(a) {
			checkBits(t, b)
		}
	}
	for _, a := range noughts() {
		if got := rat.Bits(a); got != 1 {
			t.Fatal("0 over 1 has one of D", a, got)
		}
	}
	long := rat.Rat{N: zint.Int{A: nat.Nat{0, 0, 3}}, D: zint.Int{A: nat.Nat{0, 0, 2}}}
	for want, a := range map[int]rat.Rat{1: over(-4, 4), 2: long, 3: over(7, 2), 4: over(2, -9), 10: over(3, 3*512)} {
		if got := rat.Bits(a); got != want {
			t.Error(a, got, want)
		}
	}
}
