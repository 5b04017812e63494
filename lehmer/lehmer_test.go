package lehmer

import (
	"math/big"
	"slices"
	"testing"

	"quincunx/nat"
)

// checkTake holds Take against a reckoning of its own: neither number is below 0,
// and their common divisors stay.
func checkTake(t *testing.T, j Jump, a, b nat.Nat) {
	t.Helper()
	wantA := new(big.Int).Sub(times(a, j.P), times(b, j.Q))
	wantB := new(big.Int).Sub(times(b, j.S), times(a, j.R))
	if wantA.Sign() < 0 || wantB.Sign() < 0 {
		t.Fatal("below 0:", j, a, b)
	}
	gcd := new(big.Int).GCD(nil, nil, valueOf(a), valueOf(b))
	j.Take(a, b)
	if valueOf(a).Cmp(wantA) != 0 || valueOf(b).Cmp(wantB) != 0 {
		t.Fatal("another number:", j, a, b)
	}
	if gcd.Cmp(new(big.Int).GCD(nil, nil, wantA, wantB)) != 0 {
		t.Fatal("other divisors:", j, a, b)
	}
}

// checkJoin holds Join against a reckoning of its own.
func checkJoin(t *testing.T, j Jump, x, y nat.Nat) {
	t.Helper()
	wantX := new(big.Int).Add(times(x, j.P), times(y, j.Q))
	wantY := new(big.Int).Add(times(y, j.S), times(x, j.R))
	j.Join(x, y)
	if valueOf(x).Cmp(wantX) != 0 || valueOf(y).Cmp(wantY) != 0 {
		t.Fatal("another cofactor:", j, x, y)
	}
}

// checkOne fails unless P S - Q R is 1.
func checkOne(t *testing.T, j Jump) {
	t.Helper()
	if times(nat.Of(j.P), j.S).Cmp(new(big.Int).Add(times(nat.Of(j.Q), j.R), big.NewInt(1))) != 0 {
		t.Fatal("not 1:", j)
	}
}

// A jump serves, whatever stands behind the leading words.
func TestSureOfLeadingWords(t *testing.T) {
	taken := 0
	for _, first := range words() {
		for _, y := range words() {
			x := first | 1<<63
			if x < y {
				x, y = y, x
			}
			j := sure(x, y)
			checkOne(t, j)
			if !j.IsNone() {
				taken++
			}
			for _, behind := range []nat.Nat{{0, 0}, {top, 0}, {0, top}, {top, top}, {1 << 63, 1}} {
				checkTake(t, j, nat.Nat{behind[0], x}, nat.Nat{behind[1], y})
			}
		}
	}
	if taken == 0 {
		t.Error("no jump is made")
	}
}

// Of two words each a jump goes all the way: one number is 0, the other one the
// common divisor.
func TestWholeWayOfWords(t *testing.T) {
	for _, x := range words() {
		for _, y := range words() {
			if x < y || x == 0 {
				continue
			}
			a, b := nat.Nat{x}, nat.Nat{y}
			j := Of(a, b)
			checkOne(t, j)
			if j.IsNone() != (y == 0) {
				t.Fatal(x, y, j)
			}
			gcd := new(big.Int).GCD(nil, nil, valueOf(a), valueOf(b))
			checkTake(t, j, a, b)
			if min(a[0], b[0]) != 0 || valueOf(nat.Of(max(a[0], b[0]))).Cmp(gcd) != 0 {
				t.Fatal(x, y, a, b)
			}
		}
	}
}

// Jumps of longer numbers serve, and join cofactors as they take the numbers:
// a y + b x stays.
func TestJumpsOfNumbers(t *testing.T) {
	for _, n := range []int{1, 2, 3, 5, 20} {
		taken := 0
		for _, pair := range pairs(n) {
			a, b := slices.Clone(pair[0]), slices.Clone(pair[1])
			j := Of(a, b)
			checkOne(t, j)
			if !j.IsNone() {
				taken++
			}
			x, y := longer(b, 2), longer(a, 2)
			was := sumOfProducts(a, b, x, y)
			checkTake(t, j, a, b)
			checkJoin(t, j, x, y)
			if sumOfProducts(a, b, x, y).Cmp(was) != 0 {
				t.Fatal("a y + b x isn't the same", pair, j)
			}
		}
		if taken < 100 {
			t.Error("few jumps are made", n, taken)
		}
	}
}

func sumOfProducts(a, b, x, y nat.Nat) *big.Int {
	one := new(big.Int).Mul(valueOf(a), valueOf(y))
	return one.Add(one, new(big.Int).Mul(valueOf(b), valueOf(x)))
}

// Sums whose words all run over.
func TestJoinRunsOver(t *testing.T) {
	for _, j := range []Jump{{top, top, top, top}, {top, 1, 1, top}, {1, top, top, 1}, {1, 1, 1, 1}, {P: 1, S: 1}, {}} {
		for n := range 5 {
			full := slices.Repeat(nat.Nat{top}, n)
			checkJoin(t, j, longer(full, 2), longer(full, 2))
			checkJoin(t, j, longer(full, 2), make(nat.Nat, n+2))
		}
	}
}

// No steps leave all as it is.
func TestNoSteps(t *testing.T) {
	j := Of(nat.Nat{0, 5}, nat.Nat{3, 0})
	if !j.IsNone() {
		t.Error(j)
	}
	for _, pair := range pairs(3) {
		a, b := slices.Clone(pair[0]), slices.Clone(pair[1])
		j.Take(a, b)
		j.Join(a, b)
		if !slices.Equal(a, pair[0]) || !slices.Equal(b, pair[1]) {
			t.Fatal(pair, a, b)
		}
	}
}
