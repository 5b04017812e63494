package hnf_test

import (
	"math/big"
	"math/rand"
	"slices"
	"testing"

	"quincunx/api"
	"quincunx/hnf"
	"quincunx/zint"
	"quincunx/zmat"
)

// diagonalOf is the product of the numbers on the diagonal.
func diagonalOf(a table) *big.Int {
	product := big.NewInt(1)
	for i := range min(a.r, a.c) {
		product.Mul(product, a.get(i, i))
	}
	return product
}

// checkGreat holds Hermite, Lattice, Within and Coordinates of many rows.
func checkGreat(t *testing.T, a zmat.Mat) {
	t.Helper()
	form, _ := checkMade(t, a)
	rank := len(form.leads())
	lattice, e := hnf.Lattice(a)
	expectTable(t, "Lattice", lattice, e, form.rows(0, rank))
	if is, e := hnf.Within(a, lattice); !is || e != api.OK {
		t.Fatal("Within", e)
	}
	h := matOf(form)
	for _, i := range []int{0, a.R / 2, a.R - 1} {
		row := a.A[i*a.C : (i+1)*a.C]
		got, e := hnf.Coordinates(h, row)
		want := form.coordinates(tableOf(rowOf(row)).at)
		expectTable(t, "Coordinates", rowOf(got), e, table{r: 1, c: a.R, at: want})
	}
	if a.R == a.C {
		checkDet(t, a, form)
	}
}

// checkDet holds, by primes, that the diagonal's product is the determinant.
func checkDet(t *testing.T, a zmat.Mat, form table) {
	t.Helper()
	for _, p := range primes() {
		det, product := tableOf(a).detByPrime(p), diagonalOf(form)
		sum, rest := new(big.Int).Add(det, product), new(big.Int).Sub(det, product)
		if sum.Mod(sum, p).Sign() != 0 && rest.Mod(rest, p).Sign() != 0 {
			t.Fatal("the determinant", brief(a), product)
		}
	}
}

// P14.1, P14.2: matrices of up to the greatest sides, of all ranks.
func TestGreatMatrices(t *testing.T) {
	source := rand.New(rand.NewSource(153))
	checkGreat(t, drawn(source, most, most, 1))
	checkGreat(t, drawnNext(source, most, most))
	checkGreat(t, drawn(source, most, 1, 4))
	checkGreat(t, drawn(source, 1, most, 4))
	checkGreat(t, drawn(source, most, 12, 2))
	checkGreat(t, drawn(source, 12, most, 2))
	checkGreat(t, drawn(source, 12, 12, 12))
	checkGreat(t, drawn(source, 3, 3, 300))
	for _, rank := range []int{0, 1, 5, 29, 30} {
		checkGreat(t, drawnOfRank(source, 30, 30, rank, 1))
		checkGreat(t, drawnOfRank(source, 40, 30, rank, 1))
		checkGreat(t, drawnOfRank(source, 30, 40, rank, 1))
	}
	checkGreat(t, matOf(productOf(tableOf(drawnNext(source, most, 63)), tableOf(drawnNext(source, 63, most)))))
}

// P14.1, P14.3: many rows that have come of a form by turns.
func TestGreatFormsThatAreKnown(t *testing.T) {
	source := rand.New(rand.NewSource(154))
	for _, side := range [][2]int{{most, most}, {most, 20}, {20, most}, {most, 63}, {33, 40}} {
		want := drawnForm(source, side[0], side[1])
		form, _ := checkMade(t, matOf(want.turned(source, 1500)))
		if !form.same(want) {
			t.Fatal(side, brief(form), brief(want))
		}
	}
}

// P14.1: forms of many rows that are told by a rule.
func TestFormsOfKnownMatrices(t *testing.T) {
	for _, n := range []int{1, 2, 5, 16, 33, most} {
		units := tableBy(n, n, func(i, k int) *big.Int { return new(big.Int).Exp(new(big.Int), big.NewInt(int64((i-k)*(i-k))), nil) })
		pascal := tableBy(n, n, func(i, k int) *big.Int { return new(big.Int).Binomial(int64(i+k), int64(i)) })
		if form, _ := checkMade(t, matOf(pascal)); !form.same(units) {
			t.Fatal("Pascal's triangle", n, brief(form))
		}
		if form, _ := checkMade(t, matOf(units)); !form.same(units) {
			t.Fatal("the identity", n, brief(form))
		}
		falling := tableBy(n, n, func(i, k int) *big.Int { return new(big.Int).Neg(units.get(n-1-i, k)) })
		if form, _ := checkMade(t, matOf(falling)); !form.same(units) {
			t.Fatal("the identity's rows from the last one on, below 0", n, brief(form))
		}
		same := tableBy(n, n, func(_, k int) *big.Int { return big.NewInt(int64(3 * (k - 5))) })
		want := tableBy(n, n, func(i, k int) *big.Int { return big.NewInt(int64(map[bool]int{true: 3 * (5 - k)}[i == 0])) })
		if form, _ := checkMade(t, matOf(same)); !form.same(want) {
			t.Fatal("one row, often", n, brief(form))
		}
	}
}

// P14.1: the powers of numbers: i times the column of a power lower is what the next
// one has, so that the form's diagonal has the factorials.
func TestFormOfPowers(t *testing.T) {
	for _, n := range []int64{1, 2, 3, 10, 30, most} {
		a := tableBy(int(n), int(n), func(i, k int) *big.Int { return new(big.Int).Exp(big.NewInt(int64(i)), big.NewInt(int64(k)), nil) })
		form, _ := checkMade(t, matOf(a))
		for i := range int(n) {
			if want := new(big.Int).MulRange(1, int64(i)); form.get(i, i).Cmp(want) != 0 {
				t.Fatal(n, i, form.get(i, i), want)
			}
		}
	}
}

// P14.1: numbers without a common divisor but 1, in one column: U has small numbers too.
func TestMakersOfOneColumn(t *testing.T) {
	source := rand.New(rand.NewSource(155))
	for _, n := range []int{2, 3, 20, most} {
		a := drawn(source, n, 1, 3)
		a.A[n-1] = long(false, top, top, top)
		form, maker := checkMade(t, a)
		gcd := new(big.Int)
		for _, x := range a.A {
			gcd.GCD(nil, nil, gcd, new(big.Int).Abs(valueOf(x)))
		}
		if form.get(0, 0).Cmp(gcd) != 0 {
			t.Fatal(n, form.get(0, 0), gcd)
		}
		if slices.ContainsFunc(maker.at, func(x *big.Int) bool { return x.BitLen() > 192 }) {
			t.Fatal("long numbers", n, brief(maker))
		}
	}
}

// P14.2: what is next to a sum of great rows isn't one.
func TestGreatRowsThatArentWithin(t *testing.T) {
	source := rand.New(rand.NewSource(156))
	a := drawn(source, 24, 24, 2)
	form, _ := checkMade(t, a)
	h := matOf(form)
	last := form.get(23, 23)
	if last.Cmp(big.NewInt(1)) <= 0 {
		t.Fatal("all rows are within", last)
	}
	row := slices.Clone(a.A[:24])
	row[23] = zint.Add(row[23], zint.Of(1))
	if is, e := hnf.Within(rowOf(row), a); is || e != api.OK {
		t.Fatal(is, e)
	}
	got, e := hnf.Coordinates(h, row)
	expectNoList(t, got, e, api.ErrNone)
	row[23] = zint.Sub(row[23], zint.Add(zint.Of(1), intOf(last)))
	if is, e := hnf.Within(rowOf(row), a); !is || e != api.OK {
		t.Fatal(is, e)
	}
}
