package zmat_test

import (
	"math"
	"math/big"
	"math/rand"
	"slices"
	"testing"

	"quincunx/api"
	"quincunx/zint"
	"quincunx/zmat"
)

// sides holds what is a side, and what is none, next to both ends and far from them.
func sides() []int {
	return []int{-1 << 40, math.MinInt, -65, -64, -2, -1, 0, 1, 2, 3, 8, 63, most, most + 1, most + 2, 128, 1 << 31, 1 << 32, 1 << 62, math.MaxInt}
}

func isSide(n int) bool {
	return n >= 0 && n <= most
}

// noughtsOf is the table of noughts.
func noughtsOf(r, c int) table {
	return tableBy(r, c, func(_, _ int) *big.Int { return new(big.Int) })
}

// unitsOf is the table of the identity.
func unitsOf(n int) table {
	return tableBy(n, n, func(i, k int) *big.Int {
		if i == k {
			return big.NewInt(1)
		}
		return new(big.Int)
	})
}

// P11.1: MaxSide is what the document says.
func TestMaxSide(t *testing.T) {
	if api.MaxSide != most {
		t.Fatal(api.MaxSide)
	}
}

// A matrix is formed, if its sides are from 0 to MaxSide, and there are just so many
// numbers.
func TestFormed(t *testing.T) {
	for _, a := range samples() {
		for _, b := range forms(a) {
			if !zmat.Formed(b) {
				t.Fatal("it is formed", b)
			}
		}
	}
	for _, a := range unformed() {
		if zmat.Formed(a) {
			t.Fatal("it isn't formed", a)
		}
	}
	for _, r := range sides() {
		for _, c := range sides() {
			for _, n := range []int{0, 1, 2, 3, 4, 6, 8, 63, 64, 65, 128, 4095, 4096, 4097} {
				a := zmat.Mat{R: r, C: c, A: make([]zint.Int, n)}
				if zmat.Formed(a) != isFormed(a) {
					t.Fatal(r, c, n, zmat.Formed(a))
				}
			}
		}
	}
}

// P11.1: New of all sides, and of what is no side.
func TestNew(t *testing.T) {
	for _, r := range sides() {
		for _, c := range sides() {
			got, e := zmat.New(r, c)
			if isSide(r) && isSide(c) {
				expectTable(t, "New", got, e, noughtsOf(r, c))
			} else {
				expectError(t, "New", got, e, api.ErrArg)
			}
		}
	}
	for n := range most + 1 {
		got, e := zmat.New(n, most-n)
		expectTable(t, "New", got, e, noughtsOf(n, most-n))
	}
}

// P11.1: Of is the list, row by row.
func TestOf(t *testing.T) {
	for _, c := range []struct {
		r, c int
		l    []int64
	}{
		{0, 0, nil}, {0, 0, []int64{}}, {0, 5, nil}, {5, 0, nil}, {0, most, nil}, {most, 0, []int64{}}, {1, 1, []int64{0}}, {1, 1, []int64{-1}}, {1, 1, []int64{math.MinInt64}}, {1, 1, []int64{math.MaxInt64}},
		{1, 3, []int64{1, 0, -2}}, {3, 1, []int64{1, 0, -2}}, {2, 3, []int64{1, 2, 3, 4, 5, 6}}, {3, 2, []int64{1, 2, 3, 4, 5, 6}}, {2, 2, []int64{math.MaxInt64, math.MinInt64, 1 << 32, -1 << 32}}, {2, 2, []int64{0, 0, 0, 0}},
	} {
		got, e := zmat.Of(c.r, c.c, c.l...)
		expect(t, "Of", got, e, mat(c.r, c.c, c.l...))
	}
	a, e := zmat.Of(2, 3, 1, 2, 3, 4, 5, 6)
	if e != api.OK || valueOf(a.A[2]).Int64() != 3 || valueOf(a.A[3]).Int64() != 4 || valueOf(zmat.At(a, 1, 0)).Int64() != 4 {
		t.Fatal(a, e)
	}
}

// P11.1: Of of drawn lists, up to the greatest sides.
func TestOfOfDrawn(t *testing.T) {
	source := rand.New(rand.NewSource(111))
	for i := range 300 {
		r, c := source.Intn(6), source.Intn(6)
		if i%30 == 0 {
			r, c = most-i/150, most
		}
		l := make([]int64, r*c)
		for n := range l {
			l[n] = int64(source.Uint64()) >> source.Intn(64)
		}
		kept := slices.Clone(l)
		got, e := zmat.Of(r, c, l...)
		expect(t, "Of", got, e, mat(r, c, l...))
		if !slices.Equal(l, kept) {
			t.Fatal("an argument is changed", l, kept)
		}
	}
}

// P11.1: Of's errors: that of sides ahead of that of the list's length.
func TestOfWrong(t *testing.T) {
	for _, r := range sides() {
		for _, c := range sides() {
			for _, n := range []int{0, 1, 2, 3, 4, 5, 6, 63, 64, 65, 4095, 4096, 4097, 4225} {
				got, e := zmat.Of(r, c, make([]int64, n)...)
				switch {
				case !isSide(r) || !isSide(c):
					expectError(t, "Of", got, e, api.ErrArg)
				case n != r*c:
					expectError(t, "Of", got, e, api.ErrShape)
				default:
					expectTable(t, "Of", got, e, noughtsOf(r, c))
				}
			}
		}
	}
	for _, side := range [][2]int{{math.MaxInt, math.MaxInt}, {-1, -1}} {
		got, e := zmat.Of(side[0], side[1], 7)
		expectError(t, "Of, where the product of the sides is 1", got, e, api.ErrArg)
	}
}

// P11.1: Identity of all sides, and of what is no side.
func TestIdentity(t *testing.T) {
	for _, n := range sides() {
		got, e := zmat.Identity(n)
		if isSide(n) {
			expectTable(t, "Identity", got, e, unitsOf(n))
		} else {
			expectError(t, "Identity", got, e, api.ErrArg)
		}
	}
	for n := range most + 1 {
		got, e := zmat.Identity(n)
		expectTable(t, "Identity", got, e, unitsOf(n))
	}
	got, e := zmat.Identity(2)
	expect(t, "Identity", got, e, mat(2, 2, 1, 0, 0, 1))
}

// P11.1: Norm of what is written in all ways, and of what isn't formed.
func TestNorm(t *testing.T) {
	for _, a := range samples() {
		for _, b := range forms(a) {
			got, e := zmat.Norm(b)
			expect(t, "Norm", got, e, a)
		}
	}
	for _, a := range unformed() {
		got, e := zmat.Norm(a)
		expectError(t, "Norm", got, e, api.ErrShape)
	}
	got, e := zmat.Norm(ints(1, 3, long(true, 0, 0), long(true, 4, 0), long(false, 0, 1, 0)))
	if e != api.OK || got.A[0].Neg || len(got.A[0].A) != 0 || len(got.A[1].A) != 1 || len(got.A[2].A) != 2 {
		t.Fatal(got, e)
	}
}

// P11.1: Same of any two matrices, by how they are written, their sides and numbers.
func TestSame(t *testing.T) {
	for _, a := range samples() {
		for _, b := range samples() {
			if zmat.Same(a, b) != tableOf(a).same(tableOf(b)) {
				t.Fatal(a, b, zmat.Same(a, b))
			}
		}
		for _, b := range forms(a) {
			if !zmat.Same(a, b) || !zmat.Same(b, a) || !zmat.Same(b, b) {
				t.Fatal("it is the same", a, b)
			}
		}
	}
}

// P11.1: Same of matrices that are other in one number alone.
func TestSameOfOneOtherNumber(t *testing.T) {
	for _, a := range samples() {
		for at, number := range a.A {
			value := valueOf(number)
			for _, x := range []*big.Int{new(big.Int).Add(value, big.NewInt(1)), new(big.Int).Neg(value), new(big.Int).Lsh(value, 64), new(big.Int)} {
				other := zmat.Mat{R: a.R, C: a.C, A: slices.Clone(a.A)}
				other.A[at] = intOf(x)
				isSame := x.Cmp(value) == 0
				if zmat.Same(a, other) != isSame || zmat.Same(other, a) != isSame {
					t.Fatal(a, other)
				}
			}
		}
	}
}

// P11.1: Same of the same numbers in other sides, of no numbers in all sides, and of
// what isn't formed, with itself too.
func TestSameOfOtherSides(t *testing.T) {
	list := []zmat.Mat{counting(1, 12), counting(2, 6), counting(3, 4), counting(4, 3), counting(6, 2), counting(12, 1), mat(1, 1, 0)}
	for n := range 5 {
		list = append(list, zmat.Mat{R: n}, zmat.Mat{C: n + 1})
	}
	for i, a := range list {
		for k, b := range list {
			if zmat.Same(a, b) != (i == k) {
				t.Fatal(a, b)
			}
		}
	}
	for _, a := range unformed() {
		for _, b := range unformed() {
			if zmat.Same(a, b) {
				t.Fatal("neither is formed", a, b)
			}
		}
		if zmat.Same(a, a) {
			t.Fatal("it isn't formed", a)
		}
		for _, b := range append(samples(), ints(1, 1, fives(1)...), ints(1, 5, fives(5)...)) {
			if zmat.Same(a, b) || zmat.Same(b, a) {
				t.Fatal("one isn't formed", a, b)
			}
		}
	}
}

// P11.1: Zero of all samples, of one number that isn't 0 at each place, and of what
// isn't formed.
func TestZero(t *testing.T) {
	for _, a := range samples() {
		isZero := tableOf(a).same(noughtsOf(a.R, a.C))
		for _, b := range forms(a) {
			if zmat.Zero(b) != isZero {
				t.Fatal(b, isZero)
			}
		}
	}
	for _, x := range []zint.Int{small(1), small(-1), long(false, 0, 1), long(true, 0, 0, 1, 0)} {
		for at := range 6 {
			a := written(mat(3, 2, 0, 0, 0, 0, 0, 0), at)
			if !zmat.Zero(a) {
				t.Fatal(a)
			}
			a.A[at] = x
			if zmat.Zero(a) {
				t.Fatal(a)
			}
		}
	}
	for _, a := range unformed() {
		b := zmat.Mat{R: a.R, C: a.C, A: make([]zint.Int, len(a.A))}
		if zmat.Zero(a) || zmat.Zero(b) {
			t.Fatal("it isn't formed", a)
		}
	}
	if !zmat.Zero(zmat.Mat{}) || !zmat.Zero(zmat.Mat{R: most}) || !zmat.Zero(zmat.Mat{C: 3}) || !zmat.Zero(ints(2, 4, noughtInts()...)) {
		t.Fatal("no numbers, and noughts")
	}
}

// checkNought fails unless the number is 0, and normal.
func checkNought(t *testing.T, a zmat.Mat, i, k int) {
	t.Helper()
	if x := zmat.At(a, i, k); x.Neg || len(x.A) != 0 {
		t.Fatal("there is no such number", a.R, a.C, i, k, x)
	}
}

// P11.1: At of all places, and of those outside on each side, where the list has a
// number by reckoning on, too.
func TestAt(t *testing.T) {
	for _, a := range append(samples(), counting(2, 3), counting(most, most)) {
		for i := range a.R {
			for k := range a.C {
				x := zmat.At(a, i, k)
				if !isNormalInt(x) || valueOf(x).Cmp(valueOf(a.A[i*a.C+k])) != 0 {
					t.Fatal(a, i, k, x)
				}
			}
			for _, k := range outside(a.C) {
				if !isSide(k) || k >= a.C {
					checkNought(t, a, i, k)
				}
			}
		}
		for _, i := range outside(a.R) {
			for _, k := range append(outside(a.C), 0, 1, 2) {
				if i < 0 || i >= a.R {
					checkNought(t, a, i, k)
				}
			}
		}
	}
	a := counting(2, 3)
	for _, place := range [][2]int{{0, 3}, {1, -1}, {0, 5}, {1, -3}, {-1, 3}, {-1, 5}, {2, -1}, {2, -6}, {1 << 63 / 3, 2}, {2, 0}, {0, -1}} {
		checkNought(t, a, place[0], place[1])
	}
}

// P11.1: At of what isn't formed.
func TestAtOfUnformed(t *testing.T) {
	for _, a := range unformed() {
		for _, i := range []int{-1, 0, 1, 63, 64, math.MaxInt, math.MinInt} {
			for _, k := range []int{-1, 0, 1, 63, 64, math.MaxInt, math.MinInt} {
				checkNought(t, a, i, k)
			}
		}
	}
}

// P11.3: Bits is the most bits of a number, wherever it stands, and whatever its sign.
func TestBits(t *testing.T) {
	for _, c := range []struct {
		a    zmat.Mat
		want int
	}{
		{zmat.Mat{}, 0}, {zmat.Mat{R: 3}, 0}, {zmat.Mat{C: most}, 0}, {mat(1, 1, 0), 0}, {ints(2, 4, noughtInts()...), 0}, {mat(1, 1, 1), 1}, {mat(1, 1, -1), 1}, {mat(1, 2, -9, 3), 4}, {mat(2, 1, 3, -9), 4}, {mat(1, 2, 9, -3), 4},
		{mat(1, 1, math.MinInt64), 64}, {mat(1, 1, math.MaxInt64), 63}, {mat(2, 2, 7, 8, -8, 0), 4}, {mat(2, 2, -8, -15, 3, 16), 5}, {ints(1, 2, long(true, 3, 0, 0), long(false, 1)), 2}, {ints(1, 2, long(true, 0, 0, 1, 0), small(1)), 129},
	} {
		if got := zmat.Bits(c.a); got != c.want {
			t.Error(c, got)
		}
	}
	for _, a := range samples() {
		want := 0
		for _, x := range a.A {
			want = max(want, valueOf(x).BitLen())
		}
		for _, b := range forms(a) {
			if got := zmat.Bits(b); got != want {
				t.Fatal(b, got, want)
			}
		}
	}
	for at := range 6 {
		a := mat(2, 3, 1, 0, -1, 2, -2, 3)
		a.A[at] = small(-100)
		if got := zmat.Bits(a); got != 7 {
			t.Fatal(a, got)
		}
	}
}
