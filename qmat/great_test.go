package qmat_test

import (
	"math/big"
	"math/rand"
	"slices"
	"testing"

	"quincunx/api"
	"quincunx/qmat"
	"quincunx/rat"
)

// hilbert is the matrix of 1 over i + k + 1.
func hilbert(n int) qmat.Mat {
	return qmatBy(n, n, func(i, k int) rat.Rat { return over(1, int64(i+k+1)) })
}

// binomial is x over y.
func binomial(x, y int) *big.Int {
	return new(big.Int).Binomial(int64(x), int64(y))
}

// hilbertInverse is what is known of Hilbert's matrix: its inverse is whole.
func hilbertInverse(n int) table {
	return tableBy(n, n, func(i, k int) *big.Rat {
		x := big.NewInt(int64(i + k + 1))
		for _, y := range []*big.Int{binomial(n+i, n-k-1), binomial(n+k, n-i-1), binomial(i+k, i), binomial(i+k, i)} {
			x.Mul(x, y)
		}
		if (i+k)%2 != 0 {
			x.Neg(x)
		}
		return new(big.Rat).SetInt(x)
	})
}

// P13.2: inverses of many rows that are told by a rule.
func TestInversesOfKnownMatrices(t *testing.T) {
	for _, n := range []int{1, 2, 3, 8, 20, most} {
		got, e := qmat.Inverse(hilbert(n))
		expectTable(t, "Hilbert's", got, e, hilbertInverse(n))
		got, e = qmat.Inverse(matOf(hilbertInverse(n)))
		expect(t, "the inverse of Hilbert's", got, e, hilbert(n))
		ones := matOf(tableBy(n, n, func(i, k int) *big.Rat { return big.NewRat(int64(min(i, k)+1), 1) }))
		got, e = qmat.Inverse(ones)
		expectTable(t, "the lesser one of both places", got, e, tableBy(n, n, func(i, k int) *big.Rat {
			switch {
			case i == k && i == n-1:
				return big.NewRat(1, 1)
			case i == k:
				return big.NewRat(2, 1)
			case i-k == 1 || k-i == 1:
				return big.NewRat(-1, 1)
			}
			return new(big.Rat)
		}))
	}
}

// P13.2: rows of the identity in another order, each with a factor.
func TestInversesOfMovedRows(t *testing.T) {
	source := rand.New(rand.NewSource(151))
	for _, n := range []int{2, 5, 33, most} {
		order := source.Perm(n)
		number := func(i int) *big.Rat { return big.NewRat(int64(i+1), int64(2*i+3)) }
		a := tableBy(n, n, func(i, k int) *big.Rat {
			if order[i] == k {
				return number(i)
			}
			return new(big.Rat)
		})
		want := tableBy(n, n, func(i, k int) *big.Rat {
			if order[k] == i {
				return new(big.Rat).Inv(number(k))
			}
			return new(big.Rat)
		})
		got, e := qmat.Inverse(matOf(a))
		expectTable(t, "moved rows", got, e, want)
	}
}

// checkGreatInverse holds the inverse of many rows by a prime.
func checkGreatInverse(t *testing.T, a qmat.Mat) {
	t.Helper()
	got, e := qmat.Inverse(a)
	if e != api.OK || !isNormal(got) || got.R != a.R || got.C != a.C {
		t.Fatal(a.R, e)
	}
	if !isProductBy(tableOf(a), tableOf(got), unitsOf(a.R)) || !isProductBy(tableOf(got), tableOf(a), unitsOf(a.R)) {
		t.Fatal("no inverse", a.R)
	}
}

// P13.2: inverses of up to the greatest sides.
func TestGreatInverses(t *testing.T) {
	source := rand.New(rand.NewSource(152))
	checkGreatInverse(t, drawnWhole(source, most, most, 1))
	checkGreatInverse(t, drawnNext(source, 48, 48))
	checkGreatInverse(t, drawnWhole(source, 24, 24, 6))
	checkGreatInverse(t, drawn(source, 12, 12, 2))
	checkGreatInverse(t, drawn(source, 3, 3, 90))
	for _, less := range []int{1, 2, 40} {
		a := productOf(tableOf(drawnNext(source, most, most-less)), tableOf(drawnNext(source, most-less, most)))
		got, e := qmat.Inverse(matOf(a))
		expectError(t, "a rank that isn't full", got, e, api.ErrDomain)
	}
}

// checkForm holds that the rows are reduced, with these pivots.
func checkForm(t *testing.T, a table, pivots []int) {
	t.Helper()
	if !slices.IsSorted(pivots) || len(slices.Compact(slices.Clone(pivots))) != len(pivots) || len(pivots) > a.r {
		t.Fatal(pivots)
	}
	for i := range a.r {
		ahead := a.c
		if i < len(pivots) {
			ahead = pivots[i]
		}
		for k := range ahead {
			if a.get(i, k).Sign() != 0 {
				t.Fatal("no nought", i, k, pivots)
			}
		}
		for at, k := range pivots {
			want := int64(0)
			if i == at {
				want = 1
			}
			if a.get(i, k).Cmp(big.NewRat(want, 1)) != 0 {
				t.Fatal("at a pivot", i, k, pivots)
			}
		}
	}
}

// checkGreat holds Reduce, Kernel and Solve of a matrix of that rank by a prime. Its rows
// are multiples of the reduced form's: the pivots' columns tell, which ones.
func checkGreat(t *testing.T, source *rand.Rand, a qmat.Mat, rank int) {
	t.Helper()
	got, pivots, e := qmat.Reduce(a)
	if e != api.OK || !isNormal(got) || got.R != a.R || got.C != a.C || len(pivots) != rank {
		t.Fatal(a.R, a.C, e, pivots)
	}
	first, reduced := tableOf(a), tableOf(got)
	checkForm(t, reduced, pivots)
	multiples := tableBy(a.R, a.R, func(i, k int) *big.Rat {
		if k < rank {
			return first.get(i, pivots[k])
		}
		return new(big.Rat)
	})
	if !isProductBy(multiples, reduced, first) {
		t.Fatal("other multiples of rows")
	}
	kernel, e := qmat.Kernel(a)
	if e != api.OK || !isNormal(kernel) || kernel.R != a.C || kernel.C != a.C-rank || !isProductBy(first, tableOf(kernel), noughtsOf(a.R, a.C-rank)) {
		t.Fatal("the kernel", e)
	}
	wanted := matOf(productOf(first, tableOf(drawnNext(source, a.C, 5))))
	x, e := qmat.Solve(a, wanted)
	if e != api.OK || !isNormal(x) || !isProductBy(first, tableOf(x), tableOf(wanted)) {
		t.Fatal("solved", e)
	}
	for k := range a.C {
		for at := range 5 {
			if !slices.Contains(pivots, k) && numberOf(qmat.At(x, k, at)).Sign() != 0 {
				t.Fatal("a row that is no pivot", k, at)
			}
		}
	}
}

// P13.2: matrices of up to the greatest sides, of all ranks.
func TestGreatMatrices(t *testing.T) {
	source := rand.New(rand.NewSource(153))
	checkGreat(t, source, drawnWhole(source, most, most, 1), most)
	checkGreat(t, source, drawnNext(source, 40, most), 40)
	checkGreat(t, source, drawn(source, 10, most, 1), 10)
	checkGreat(t, source, drawn(source, most, 10, 1), 10)
	checkGreat(t, source, matOf(noughtsOf(most, most)), 0)
	for _, rank := range []int{1, 5, 29} {
		a := productOf(tableOf(drawnNext(source, most, rank)), tableOf(drawnNext(source, rank, most)))
		checkGreat(t, source, matOf(a), rank)
	}
}

// P13.2: equations of the greatest sides, beside which no column is left.
func TestGreatEquations(t *testing.T) {
	source := rand.New(rand.NewSource(154))
	a, b := drawnNext(source, most, most), drawnNext(source, most, most)
	x, e := qmat.Solve(a, b)
	if e != api.OK || !isNormal(x) || !isProductBy(tableOf(a), tableOf(x), tableOf(b)) {
		t.Fatal(e)
	}
	flat := productOf(tableOf(drawnNext(source, most, 60)), tableOf(drawnNext(source, 60, most)))
	right := productOf(flat, tableOf(b))
	x, e = qmat.Solve(matOf(flat), matOf(right))
	if e != api.OK || !isNormal(x) || !isProductBy(flat, tableOf(x), right) {
		t.Fatal(e)
	}
	right.at[most*most-1] = new(big.Rat).Add(right.at[most*most-1], big.NewRat(1, 9))
	x, e = qmat.Solve(matOf(flat), matOf(right))
	expectError(t, "one number is another", x, e, api.ErrNone)
}
