package bareiss_test

import (
	"math"
	"math/big"
	"math/rand"
	"testing"

	"quincunx/bareiss"
	"quincunx/zmat"
)

// boundOf is the bound as the chapter tells it.
func boundOf(a table) *big.Int {
	product := big.NewInt(1)
	for i := range a.r {
		sum := new(big.Int)
		for k := range a.c {
			sum.Add(sum, new(big.Int).Mul(a.get(i, k), a.get(i, k)))
		}
		least := new(big.Int).Sqrt(sum)
		if new(big.Int).Mul(least, least).Cmp(sum) < 0 {
			least.Add(least, big.NewInt(1))
		}
		product.Mul(product, least)
	}
	return product
}

// checkBound holds the bound, and that the determinant isn't greater.
func checkBound(t *testing.T, a zmat.Mat) {
	t.Helper()
	got, e := bareiss.Bound(a)
	expectInt(t, "Bound", got, e, boundOf(tableOf(a)))
	if det, _ := bareiss.Det(a); valueOf(det).CmpAbs(valueOf(got)) > 0 {
		t.Fatal("the determinant is greater", a, got)
	}
}

// P12.3: bounds that are easily reckoned: lengths that are whole, and such that are
// rounded up.
func TestBound(t *testing.T) {
	for _, c := range []struct {
		a    zmat.Mat
		want int64
	}{
		{mat(0, 0), 1}, {mat(1, 1, 0), 0}, {mat(1, 1, 7), 7}, {mat(1, 1, -7), 7}, {mat(2, 2, 3, 4, 1, 1), 10}, {mat(2, 2, 3, 4, -5, 12), 65}, {mat(2, 2, 1, 1, 1, 1), 4}, {mat(2, 2, 1, 2, 3, 4), 15}, {mat(2, 2, 0, 0, 3, 4), 0}, {mat(2, 2, 0, -1, 1, 0), 1},
		{mat(3, 3, 1, 2, 2, 2, 3, 6, 1, 1, 1), 42}, {mat(3, 3, 2, 0, 0, 0, -3, 0, 0, 0, 5), 30}, {mat(2, 2, 1, 3, 2, 2), 12}, {mat(2, 2, 2, 2, 2, 2), 9}, {mat(1, 1, math.MaxInt64), math.MaxInt64}, {mat(2, 2, 3, 1, 4, 1), 20},
	} {
		for _, a := range forms(c.a) {
			got, e := bareiss.Bound(a)
			expectInt(t, "Bound", got, e, big.NewInt(c.want))
		}
	}
}

// P12.3: samples, and all matrices of few small numbers.
func TestBoundOfSamples(t *testing.T) {
	for _, a := range squares() {
		for _, b := range forms(a) {
			checkBound(t, b)
		}
	}
	each(2, 2, 4, func(a zmat.Mat) { checkBound(t, a) })
	each(1, 1, 99, func(a zmat.Mat) { checkBound(t, a) })
}

// P12.3: drawn matrices; sums of squares that lie next to a square.
func TestBoundOfDrawn(t *testing.T) {
	source := rand.New(rand.NewSource(128))
	for range 800 {
		n := source.Intn(6)
		checkBound(t, drawn(source, n, n, 1+source.Intn(4)))
	}
	for range 300 {
		x := drawnInt(source, 4)
		if valueOf(x).Sign() != 0 {
			checkBound(t, ints(2, 2, x, small(int64(source.Intn(2))), small(0), longer(x, 1)))
			checkBound(t, ints(2, 2, x, small(1), small(1), x))
		}
	}
	checkBound(t, drawn(source, most, most, 1))
	checkBound(t, drawn(source, 3, 3, 300))
}

// P12.3: there are matrices whose determinant is the bound.
func TestBoundThatIsReached(t *testing.T) {
	for _, n := range []int{1, 4, 16, most} {
		a := matOf(hadamard(n))
		got, e := bareiss.Bound(a)
		det, _ := bareiss.Det(a)
		expectInt(t, "Bound", got, e, new(big.Int).Abs(valueOf(det)))
	}
}
