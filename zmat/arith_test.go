package zmat_test

import (
	"math"
	"math/big"
	"math/rand"
	"testing"

	"quincunx/api"
	"quincunx/zint"
	"quincunx/zmat"
)

// sumOf is a + x b, place by place.
func sumOf(a, b table, x int64) table {
	return tableBy(a.r, a.c, func(i, k int) *big.Int {
		y := new(big.Int).Mul(big.NewInt(x), b.get(i, k))
		return y.Add(y, a.get(i, k))
	})
}

// timesOf is x a.
func timesOf(a table, x *big.Int) table {
	return tableBy(a.r, a.c, func(i, k int) *big.Int { return new(big.Int).Mul(x, a.get(i, k)) })
}

// productOf sums up the products of rows and columns.
func productOf(a, b table) table {
	return tableBy(a.r, b.c, func(i, k int) *big.Int {
		sum := new(big.Int)
		for at := range a.c {
			sum.Add(sum, new(big.Int).Mul(a.get(i, at), b.get(at, k)))
		}
		return sum
	})
}

// turnedOf is a's rows made columns.
func turnedOf(a table) table {
	return tableBy(a.c, a.r, func(i, k int) *big.Int { return a.get(k, i) })
}

// stackOf is a's rows, then b's.
func stackOf(a, b table) table {
	return table{r: a.r + b.r, c: a.c, at: append(append([]*big.Int{}, a.at...), b.at...)}
}

// besideOf is a's columns, then b's: the rows of what is turned.
func besideOf(a, b table) table {
	return turnedOf(stackOf(turnedOf(a), turnedOf(b)))
}

// checkSums holds Add and Sub.
func checkSums(t *testing.T, a, b zmat.Mat) {
	t.Helper()
	sum, sumErr := zmat.Add(a, b)
	rest, restErr := zmat.Sub(a, b)
	if a.R != b.R || a.C != b.C {
		expectError(t, "Add", sum, sumErr, api.ErrShape)
		expectError(t, "Sub", rest, restErr, api.ErrShape)
		return
	}
	expectTable(t, "Add", sum, sumErr, sumOf(tableOf(a), tableOf(b), 1))
	expectTable(t, "Sub", rest, restErr, sumOf(tableOf(a), tableOf(b), -1))
}

// checkMul holds Mul.
func checkMul(t *testing.T, a, b zmat.Mat) {
	t.Helper()
	got, e := zmat.Mul(a, b)
	if a.C != b.R {
		expectError(t, "Mul", got, e, api.ErrShape)
		return
	}
	expectTable(t, "Mul", got, e, productOf(tableOf(a), tableOf(b)))
}

// checkJoins holds Stack and Beside.
func checkJoins(t *testing.T, a, b zmat.Mat) {
	t.Helper()
	got, e := zmat.Stack(a, b)
	switch {
	case a.C != b.C:
		expectError(t, "Stack", got, e, api.ErrShape)
	case a.R+b.R > most:
		expectError(t, "Stack", got, e, api.ErrArg)
	default:
		expectTable(t, "Stack", got, e, stackOf(tableOf(a), tableOf(b)))
	}
	got, e = zmat.Beside(a, b)
	switch {
	case a.R != b.R:
		expectError(t, "Beside", got, e, api.ErrShape)
	case a.C+b.C > most:
		expectError(t, "Beside", got, e, api.ErrArg)
	default:
		expectTable(t, "Beside", got, e, besideOf(tableOf(a), tableOf(b)))
	}
}

// P11.2: sums that are easily reckoned.
func TestSums(t *testing.T) {
	got, e := zmat.Add(mat(2, 2, 1, 2, 3, 4), mat(2, 2, 10, -2, 30, -5))
	expect(t, "Add", got, e, mat(2, 2, 11, 0, 33, -1))
	got, e = zmat.Sub(mat(2, 2, 1, 2, 3, 4), mat(2, 2, 10, 2, -30, 5))
	expect(t, "Sub", got, e, mat(2, 2, -9, 0, 33, -1))
	got, e = zmat.Add(mat(1, 2, math.MaxInt64, math.MinInt64), mat(1, 2, math.MaxInt64, math.MinInt64))
	expect(t, "Add", got, e, ints(1, 2, long(false, top-1), long(true, 0, 1)))
	got, e = zmat.Sub(mat(0, 3), mat(0, 3))
	expect(t, "Sub", got, e, mat(0, 3))
	for _, b := range []zmat.Mat{mat(3, 2, 1, 2, 3, 4, 5, 6), mat(1, 6, 1, 2, 3, 4, 5, 6), mat(2, 2, 1, 2, 3, 4), mat(3, 3, 1, 2, 3, 4, 5, 6, 7, 8, 9), mat(0, 0), mat(2, 0), mat(0, 3)} {
		checkSums(t, mat(2, 3, 1, 2, 3, 4, 5, 6), b)
		checkSums(t, b, mat(2, 3, 1, 2, 3, 4, 5, 6))
	}
	for _, c := range [][2]zmat.Mat{{mat(0, 3), mat(3, 0)}, {mat(0, 3), mat(0, 2)}, {mat(0, 0), mat(0, 1)}, {mat(0, 0), mat(1, 0)}} {
		checkSums(t, c[0], c[1])
	}
}

// P11.2: products that are easily reckoned; sides that fit in one order alone.
func TestMul(t *testing.T) {
	a, b := mat(2, 3, 1, 2, 3, 4, 5, 6), mat(3, 2, 1, 0, 0, 1, 1, 1)
	for i, c := range []struct{ a, b, want zmat.Mat }{
		{mat(2, 2, 1, 2, 3, 4), mat(2, 2, 0, 1, 1, 0), mat(2, 2, 2, 1, 4, 3)}, {mat(2, 2, 0, 1, 1, 0), mat(2, 2, 1, 2, 3, 4), mat(2, 2, 3, 4, 1, 2)}, {a, b, mat(2, 2, 4, 5, 10, 11)},
		{b, a, mat(3, 3, 1, 2, 3, 4, 5, 6, 5, 7, 9)}, {mat(1, 3, 1, 2, 3), mat(3, 1, 4, 5, -6), mat(1, 1, -4)}, {mat(3, 1, 4, 5, -6), mat(1, 2, 1, 2), mat(3, 2, 4, 8, 5, 10, -6, -12)},
		{mat(1, 1, math.MinInt64), mat(1, 1, math.MinInt64), ints(1, 1, long(false, 0, 1<<62))}, {ints(1, 2, long(false, 0, 1), long(true, 1)), ints(2, 1, long(true, 0, 1), long(true, 0, 0, 0)), ints(1, 1, long(true, 0, 0, 1))},
		{mat(2, 2, 2, -4, -1, 2), mat(2, 2, 2, 4, 1, 2), mat(2, 2, 0, 0, 0, 0)},
	} {
		got, e := zmat.Mul(c.a, c.b)
		expect(t, "Mul "+string(rune('a'+i)), got, e, c.want)
	}
	for _, c := range [][2]zmat.Mat{{a, a}, {b, b}, {mat(1, 2, 1, 2), mat(1, 2, 1, 2)}, {mat(2, 0), mat(1, 0)}, {mat(0, 3), mat(0, 3)}, {mat(2, 2, 1, 2, 3, 4), b}} {
		got, e := zmat.Mul(c[0], c[1])
		expectError(t, "Mul", got, e, api.ErrShape)
	}
	got, e := zmat.Mul(a, mat(3, 1, 1, 1, 1))
	expect(t, "it fits", got, e, mat(2, 1, 6, 15))
	got, e = zmat.Mul(mat(3, 1, 1, 1, 1), a)
	expectError(t, "it doesn't fit in the other order", got, e, api.ErrShape)
}

// P11.2: products by a side of 0: noughts where it is shared, and no numbers where it
// isn't.
func TestMulOfNoSides(t *testing.T) {
	list := []int{0, 1, 2, 3, 63, most}
	for _, r := range list {
		for _, c := range list {
			got, e := zmat.Mul(zmat.Mat{R: r}, zmat.Mat{C: c})
			expectTable(t, "a shared side of 0", got, e, noughtsOf(r, c))
			got, e = zmat.Mul(zmat.Mat{C: r}, counting(r, c))
			expectTable(t, "no rows", got, e, noughtsOf(0, c))
			got, e = zmat.Mul(counting(c, r), zmat.Mat{R: r})
			expectTable(t, "no columns", got, e, noughtsOf(c, 0))
		}
	}
}

// P11.2: products by the identity, and by noughts, on both sides.
func TestMulByIdentity(t *testing.T) {
	for _, a := range samples() {
		for _, b := range forms(a) {
			got, e := zmat.Mul(matOf(unitsOf(a.R)), b)
			expect(t, "the identity times a", got, e, a)
			got, e = zmat.Mul(b, matOf(unitsOf(a.C)))
			expect(t, "a times the identity", got, e, a)
		}
		noughts := zmat.Mat{R: a.C, C: 5, A: make([]zint.Int, 5*a.C)}
		got, e := zmat.Mul(a, written(noughts, 1))
		expectTable(t, "a times noughts", got, e, noughtsOf(a.R, 5))
		noughts = zmat.Mat{R: 5, C: a.R, A: make([]zint.Int, 5*a.R)}
		got, e = zmat.Mul(written(noughts, 2), a)
		expectTable(t, "noughts times a", got, e, noughtsOf(5, a.C))
	}
}

// P11.2: Scale by all factors, and by 0, -1 and 1.
func TestScale(t *testing.T) {
	for _, a := range samples() {
		for _, x := range factors() {
			for _, b := range []zmat.Mat{a, written(a, 1), matOf(tableOf(a))} {
				got, e := zmat.Scale(b, x)
				expectTable(t, "Scale", got, e, timesOf(tableOf(a), valueOf(x)))
			}
		}
	}
	a := mat(2, 2, 1, -2, 0, 4)
	for _, x := range noughtInts() {
		got, e := zmat.Scale(a, x)
		expect(t, "by 0", got, e, mat(2, 2, 0, 0, 0, 0))
	}
	got, e := zmat.Scale(a, small(-1))
	expect(t, "by -1", got, e, mat(2, 2, -1, 2, 0, -4))
	got, e = zmat.Scale(a, long(true, 3, 0))
	expect(t, "by -3", got, e, mat(2, 2, -3, 6, 0, -12))
	got, e = zmat.Scale(a, long(false, 0, 1))
	expect(t, "by 2^64", got, e, ints(2, 2, long(false, 0, 1), long(true, 0, 2), small(0), long(false, 0, 4)))
}

// P11.2: Transpose of all sides.
func TestTranspose(t *testing.T) {
	for _, a := range append(samples(), counting(most, most), counting(5, 9), counting(most, 3)) {
		for _, b := range forms(a) {
			got, e := zmat.Transpose(b)
			expectTable(t, "Transpose", got, e, turnedOf(tableOf(a)))
		}
	}
	for _, c := range [][2]zmat.Mat{
		{mat(2, 3, 1, 2, 3, 4, 5, 6), mat(3, 2, 1, 4, 2, 5, 3, 6)}, {mat(1, 3, 7, 8, 9), mat(3, 1, 7, 8, 9)}, {mat(3, 1, 7, 8, 9), mat(1, 3, 7, 8, 9)}, {mat(0, 3), mat(3, 0)}, {mat(3, 0), mat(0, 3)}, {mat(0, 0), mat(0, 0)},
		{mat(0, most), mat(most, 0)}, {mat(1, 1, -5), mat(1, 1, -5)}, {mat(2, 2, 1, 2, 3, 4), mat(2, 2, 1, 3, 2, 4)},
	} {
		got, e := zmat.Transpose(c[0])
		expect(t, "Transpose", got, e, c[1])
	}
}

// P11.2: Stack and Beside that are easily reckoned, where a side is 0 too.
func TestStackAndBeside(t *testing.T) {
	for _, c := range []struct{ a, b, want zmat.Mat }{
		{mat(1, 2, 1, 2), mat(2, 2, 3, 4, 5, 6), mat(3, 2, 1, 2, 3, 4, 5, 6)}, {mat(2, 2, 3, 4, 5, 6), mat(1, 2, 1, 2), mat(3, 2, 3, 4, 5, 6, 1, 2)}, {mat(0, 2), mat(1, 2, 1, 2), mat(1, 2, 1, 2)}, {mat(1, 2, 1, 2), mat(0, 2), mat(1, 2, 1, 2)},
		{mat(0, 0), mat(0, 0), mat(0, 0)}, {mat(3, 0), mat(2, 0), mat(5, 0)}, {mat(0, 4), mat(0, 4), mat(0, 4)}, {mat(0, 0), mat(2, 0), mat(2, 0)}, {mat(1, 1, -1), mat(1, 1, 1), mat(2, 1, -1, 1)},
	} {
		got, e := zmat.Stack(c.a, c.b)
		expect(t, "Stack", got, e, c.want)
	}
	for _, c := range []struct{ a, b, want zmat.Mat }{
		{mat(2, 1, 1, 2), mat(2, 2, 3, 4, 5, 6), mat(2, 3, 1, 3, 4, 2, 5, 6)}, {mat(2, 2, 3, 4, 5, 6), mat(2, 1, 1, 2), mat(2, 3, 3, 4, 1, 5, 6, 2)}, {mat(2, 0), mat(2, 1, 1, 2), mat(2, 1, 1, 2)}, {mat(2, 1, 1, 2), mat(2, 0), mat(2, 1, 1, 2)},
		{mat(0, 0), mat(0, 0), mat(0, 0)}, {mat(0, 3), mat(0, 2), mat(0, 5)}, {mat(4, 0), mat(4, 0), mat(4, 0)}, {mat(0, 0), mat(0, 2), mat(0, 2)}, {mat(1, 1, -1), mat(1, 1, 1), mat(1, 2, -1, 1)},
	} {
		got, e := zmat.Beside(c.a, c.b)
		expect(t, "Beside", got, e, c.want)
	}
}

// P11.2: sums of sides next to MaxSide; the error of other sides ahead of that of too
// many.
func TestStackAndBesideNextToMaxSide(t *testing.T) {
	for _, n := range []int{0, 1, 2, 31, 32, 33, 62, 63, most} {
		for _, m := range []int{most - n - 1, most - n, most - n + 1, 0, 1, most} {
			if !isSide(m) {
				continue
			}
			for _, side := range []int{0, 1, 3} {
				checkJoins(t, counting(n, side), counting(m, side))
				checkJoins(t, counting(side, n), counting(side, m))
				checkJoins(t, counting(n, side), counting(m, side+1))
				checkJoins(t, counting(side, n), counting(side+1, m))
			}
		}
	}
	full := counting(most, most)
	got, e := zmat.Stack(full, counting(1, most))
	expectError(t, "a row too many", got, e, api.ErrArg)
	got, e = zmat.Beside(full, counting(most, 1))
	expectError(t, "a column too many", got, e, api.ErrArg)
	got, e = zmat.Stack(full, counting(1, most-1))
	expectError(t, "other columns, and a row too many", got, e, api.ErrShape)
	got, e = zmat.Beside(full, counting(most-1, 1))
	expectError(t, "other rows, and a column too many", got, e, api.ErrShape)
	got, e = zmat.Stack(full, zmat.Mat{C: most})
	expect(t, "no row more", got, e, full)
	got, e = zmat.Beside(zmat.Mat{R: most}, full)
	expect(t, "no column more", got, e, full)
	got, e = zmat.Stack(zmat.Mat{R: most}, zmat.Mat{R: 1})
	expectError(t, "a row too many, without numbers", got, e, api.ErrArg)
	got, e = zmat.Beside(zmat.Mat{C: 1}, zmat.Mat{C: most})
	expectError(t, "a column too many, without numbers", got, e, api.ErrArg)
}

// P11.2: all pairs of samples, written in several ways.
func TestPairsOfSamples(t *testing.T) {
	list := samples()
	for i, a := range list {
		for k, b := range list {
			first, second := forms(a)[(i+3*k)%10], forms(b)[(5*i+k)%10]
			for _, c := range [][2]zmat.Mat{{a, b}, {first, second}} {
				checkSums(t, c[0], c[1])
				checkMul(t, c[0], c[1])
				checkJoins(t, c[0], c[1])
			}
		}
	}
}

// P11.2: drawn matrices of sides that fit.
func TestDrawnPairs(t *testing.T) {
	source := rand.New(rand.NewSource(112))
	for range 600 {
		r, c, n := source.Intn(7), source.Intn(7), source.Intn(7)
		a := drawn(source, r, c, 1+source.Intn(5))
		checkSums(t, a, drawn(source, r, c, 3))
		checkMul(t, a, drawn(source, c, n, 3))
		checkJoins(t, a, drawn(source, n, c, 2))
		checkJoins(t, a, drawn(source, r, n, 2))
		x := drawnInt(source, 4)
		got, e := zmat.Scale(a, x)
		expectTable(t, "Scale", got, e, timesOf(tableOf(a), valueOf(x)))
		got, e = zmat.Transpose(a)
		expectTable(t, "Transpose", got, e, turnedOf(tableOf(a)))
	}
}

// P11.2: matrices of the greatest sides, and numbers of very many words.
func TestGreatPairs(t *testing.T) {
	source := rand.New(rand.NewSource(113))
	a, b := drawn(source, most, most, 2), drawn(source, most, most, 2)
	checkSums(t, a, b)
	checkMul(t, a, b)
	checkMul(t, a, drawn(source, most, 1, 3))
	checkMul(t, drawn(source, 1, most, 3), b)
	checkMul(t, drawn(source, most, 1, 3), drawn(source, 1, most, 3))
	checkMul(t, drawn(source, 3, 4, 200), drawn(source, 4, 2, 90))
	checkSums(t, drawn(source, 3, 4, 200), drawn(source, 3, 4, 200))
}

// P11.2: ErrShape of what isn't formed, in each place, whatever the other one is.
func TestUnformedPairs(t *testing.T) {
	calls := []func(a, b zmat.Mat) (zmat.Mat, api.Errno){zmat.Add, zmat.Sub, zmat.Mul, zmat.Stack, zmat.Beside}
	list := append(samples(), counting(most, most), counting(1, 1))
	for _, a := range unformed() {
		for n, call := range calls {
			for _, b := range append(list, unformed()...) {
				got, e := call(a, b)
				expectError(t, "the first, in call "+string(rune('0'+n)), got, e, api.ErrShape)
				got, e = call(b, a)
				expectError(t, "the second, in call "+string(rune('0'+n)), got, e, api.ErrShape)
			}
		}
		for _, x := range factors() {
			got, e := zmat.Scale(a, x)
			expectError(t, "Scale", got, e, api.ErrShape)
		}
		got, e := zmat.Transpose(a)
		expectError(t, "Transpose", got, e, api.ErrShape)
	}
}
