package bareiss_test

import (
	"math/big"
	"math/bits"
	"math/rand"
	"slices"
	"testing"

	"quincunx/api"
	"quincunx/bareiss"
	"quincunx/zmat"
)

// expectDet fails unless a's determinant is that one.
func expectDet(t *testing.T, name string, a table, want *big.Int) {
	t.Helper()
	got, e := bareiss.Det(matOf(a))
	expectInt(t, name, got, e, want)
}

// power is x to the n.
func power(x, n int64) *big.Int {
	return new(big.Int).Exp(big.NewInt(x), big.NewInt(n), nil)
}

// moved is a with its rows in that order, and the order's sign.
func moved(a table, order []int) (table, int64) {
	sign := int64(1)
	for i, x := range order {
		for _, y := range order[:i] {
			if y > x {
				sign = -sign
			}
		}
	}
	return a.part(order, upTo(a.c)), sign
}

// hadamard is the matrix of 1 and -1 whose rows have products of 0 with one another.
func hadamard(n int) table {
	return tableBy(n, n, func(i, k int) *big.Int {
		return big.NewInt(1 - 2*int64(bits.OnesCount(uint(i&k))%2))
	})
}

// triangle has noughts below the numbers from 1 on, and numbers of both signs above.
func triangle(n int) table {
	return tableBy(n, n, func(i, k int) *big.Int {
		switch {
		case i == k:
			return big.NewInt(int64(i + 1))
		case i < k:
			return big.NewInt(int64((7*i+3*k)%11 - 5))
		}
		return new(big.Int)
	})
}

// P12.1: determinants of many rows that are told by a rule.
func TestDetsOfKnownMatrices(t *testing.T) {
	source := rand.New(rand.NewSource(124))
	for _, n := range []int{1, 2, 5, 16, 33, most} {
		units := tableBy(n, n, func(i, k int) *big.Int { return power(0, int64((i-k)*(i-k))) })
		order := source.Perm(n)
		swapped, sign := moved(units, order)
		expectDet(t, "rows of the identity, moved", swapped, big.NewInt(sign))
		expectDet(t, "a triangle", triangle(n), new(big.Int).MulRange(1, int64(n)))
		swapped, sign = moved(triangle(n), order)
		want := new(big.Int).MulRange(1, int64(n))
		expectDet(t, "a triangle, moved", swapped, want.Mul(want, big.NewInt(sign)))
		expectDet(t, "Pascal's triangle", tableBy(n, n, func(i, k int) *big.Int { return new(big.Int).Binomial(int64(i+k), int64(i)) }), big.NewInt(1))
		expectDet(t, "1, and n more on the diagonal", tableBy(n, n, func(i, k int) *big.Int {
			return new(big.Int).Add(big.NewInt(1), new(big.Int).Mul(big.NewInt(int64(n)), units.get(i, k)))
		}), new(big.Int).Mul(big.NewInt(2), power(int64(n), int64(n))))
		expectDet(t, "the rank 1", tableBy(n, n, func(i, k int) *big.Int { return big.NewInt(int64((i + 1) * (k + 2))) }), big.NewInt(map[bool]int64{true: 2}[n == 1]))
	}
	for _, n := range []int{1, 2, 4, 8, 16, 32, most} {
		root := int64(bits.Len(uint(n)) - 1)
		want := power(2, root*int64(n)/2)
		if n == 2 {
			want.Neg(want)
		}
		expectDet(t, "a matrix of Hadamard's", hadamard(n), want)
	}
}

// P12.1: a matrix of the powers of numbers: the product of all differences.
func TestDetOfPowers(t *testing.T) {
	for _, n := range []int64{1, 2, 3, 10, 25} {
		want := big.NewInt(1)
		for i := range n {
			for k := range i {
				want.Mul(want, big.NewInt(i-k))
			}
		}
		expectDet(t, "powers", tableBy(int(n), int(n), func(i, k int) *big.Int { return power(int64(i), int64(k)) }), want)
	}
}

// checkGreat holds Det, Rank and Echelon of many rows by primes.
func checkGreat(t *testing.T, a zmat.Mat) {
	t.Helper()
	rank, e := bareiss.Rank(a)
	echelon, pivots, echelonErr := bareiss.Echelon(a)
	if e != api.OK || echelonErr != api.OK || !isNormal(echelon) || echelon.R != a.R || echelon.C != a.C {
		t.Fatal(e, echelonErr, echelon.R, echelon.C)
	}
	want, answered := tableOf(a), tableOf(echelon)
	checkSteps(t, answered, pivots)
	both := table{r: 2 * a.R, c: a.C, at: slices.Concat(want.at, answered.at)}
	for _, p := range primes() {
		known, rest := want.byPrime(p)
		bothKnown, _ := both.byPrime(p)
		if rank != len(known) || !slices.Equal(pivots, known) || !slices.Equal(bothKnown, known) {
			t.Fatal(a.R, a.C, rank, pivots, known, bothKnown)
		}
		if det, e := bareiss.Det(a); a.R == a.C {
			x := valueOf(det)
			expectInt(t, "Det, by a prime", intOf(x.Mod(x, p)), e, rest)
		}
	}
}

// P12.1, P12.2: matrices of up to the greatest sides, of all ranks.
func TestGreatMatrices(t *testing.T) {
	source := rand.New(rand.NewSource(125))
	checkGreat(t, drawn(source, most, most, 1))
	checkGreat(t, drawnNext(source, most, most))
	checkGreat(t, drawn(source, 12, most, 2))
	checkGreat(t, drawn(source, most, 12, 2))
	checkGreat(t, drawn(source, 16, 16, 8))
	checkGreat(t, drawn(source, 3, 3, 500))
	for _, rank := range []int{0, 1, 5, 29, 30} {
		checkGreat(t, drawnOfRank(source, 30, 30, rank, 1))
		checkGreat(t, drawnOfRank(source, 30, 40, rank, 1))
	}
}

// checkGreatAdjugate holds some numbers of the adjugate by a prime.
func checkGreatAdjugate(t *testing.T, source *rand.Rand, a zmat.Mat) {
	t.Helper()
	adjugate, e := bareiss.Adjugate(a)
	if e != api.OK || !isNormal(adjugate) || adjugate.R != a.R || adjugate.C != a.C {
		t.Fatal(a.R, e)
	}
	first, answered := tableOf(a), tableOf(adjugate)
	for n := range 10 {
		i, k, p := source.Intn(a.R), source.Intn(a.C), primes()[n%2]
		_, rest := first.without(k, i).byPrime(p)
		if (i+k)%2 != 0 {
			rest.Mod(rest.Neg(rest), p)
		}
		if new(big.Int).Mod(answered.get(i, k), p).Cmp(rest) != 0 {
			t.Fatal(a.R, i, k)
		}
	}
}

// P12.1: adjugates of many rows, where the rank is less by one too, or by more.
func TestGreatAdjugates(t *testing.T) {
	source := rand.New(rand.NewSource(126))
	for less := range 3 {
		left, right := drawnNext(source, most, most-less), drawnNext(source, most-less, most)
		a := matOf(productOf(tableOf(left), tableOf(right)))
		checkGreatAdjugate(t, source, a)
		if got, e := bareiss.Adjugate(a); zmat.Zero(got) != (less > 1) {
			t.Fatal(less, e)
		}
		checkGreatAdjugate(t, source, drawnOfRank(source, 24, 24, 24-less, 1))
	}
	checkGreatAdjugate(t, source, drawn(source, 30, 30, 1))
	checkGreatAdjugate(t, source, drawnNext(source, most, most))
	checkGreatAdjugate(t, source, matOf(hadamard(most)))
}
