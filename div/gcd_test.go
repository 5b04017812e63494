package div

import (
	"math/big"
	"math/rand"
	"testing"

	"quincunx/api"
	"quincunx/nat"
)

// checkGcd holds Gcd and Lcm, both ways round, against a reckoning of their own.
func checkGcd(t *testing.T, a, b nat.Nat) {
	t.Helper()
	x, y := valueOf(a), valueOf(b)
	gcd, lcm := new(big.Int).GCD(nil, nil, x, y), new(big.Int)
	if gcd.Sign() > 0 {
		lcm.Mul(x, new(big.Int).Quo(y, gcd))
	}
	expect(t, "Gcd", Gcd(a, b), gcd)
	expect(t, "Gcd", Gcd(b, a), gcd)
	expect(t, "Lcm", Lcm(a, b), lcm)
	expect(t, "Lcm", Lcm(b, a), lcm)
}

// P3.2: Gcd and Lcm of short naturals, normal and not.
func TestGcdOfSamples(t *testing.T) {
	for _, a := range samples() {
		for _, b := range samples() {
			checkGcd(t, a, b)
		}
	}
	if g := Gcd(nat.Of(84), nat.Of(30)); nat.Cmp(g, nat.Of(6)) != 0 {
		t.Error(g)
	}
	if l := Lcm(nat.Nat{4, 0}, nat.Nat{6, 0, 0}); nat.Cmp(l, nat.Of(12)) != 0 {
		t.Error(l)
	}
}

// P3.2: of 0 and 0 both are 0; of 0 and another one Gcd is that one, and Lcm 0.
func TestGcdOfNought(t *testing.T) {
	for _, a := range noughts() {
		for _, b := range noughts() {
			if len(Gcd(a, b)) != 0 || len(Lcm(a, b)) != 0 {
				t.Error(a, b, Gcd(a, b), Lcm(a, b))
			}
		}
		for _, b := range samples() {
			alike(t, "Gcd of 0", Gcd(a, b), nat.Norm(b))
			alike(t, "Gcd with 0", Gcd(b, a), nat.Norm(b))
			if len(Lcm(a, b)) != 0 || len(Lcm(b, a)) != 0 {
				t.Error(a, b)
			}
		}
	}
}

// P3.2: numbers with divisors of many lengths in common, multiples and equal
// ones among them.
func TestGcdOfMultiples(t *testing.T) {
	source := rand.New(rand.NewSource(8))
	for range 3000 {
		common := drawn(source, 1+source.Intn(6))
		a := nat.Mul(common, drawn(source, 1+source.Intn(6)))
		b := nat.Mul(common, drawn(source, 1+source.Intn(6)))
		checkGcd(t, a, b)
		checkGcd(t, a, common)
		checkGcd(t, a, nat.Add(a, common))
		checkGcd(t, longer(a, 5), a)
	}
}

// P3.2: numbers with nothing in common, that lie next to one another.
func TestGcdOfNeighbours(t *testing.T) {
	for _, a := range samples() {
		more := nat.Add(a, nat.Of(1))
		alike(t, "Gcd", Gcd(a, more), nat.Of(1))
		alike(t, "Lcm", Lcm(a, more), nat.Mul(a, more))
		checkGcd(t, nat.Mul(a, more), nat.Mul(more, nat.Add(more, nat.Of(1))))
	}
}

// P3.2: numbers whose Euclid's way is the longest, and such as have great
// quotients on it.
func TestGcdOfLongWays(t *testing.T) {
	a, b := nat.Of(0), nat.Of(1)
	for n := range 1500 {
		a, b = b, nat.Add(a, b)
		if n%7 == 0 || n < 200 {
			checkGcd(t, a, b)
			checkGcd(t, nat.Mul(a, nat.Nat{0, 5, 1}), nat.Mul(b, nat.Nat{0, 5, 1}))
		}
	}
	for _, quotient := range []nat.Nat{{1 << 31}, {1 << 32}, {1<<32 + 1}, {top}, {0, 1}, {5, 0, 9}} {
		a, b = nat.Of(0), nat.Of(1)
		for range 40 {
			a, b = b, nat.Add(a, nat.Mul(b, quotient))
			checkGcd(t, a, b)
		}
	}
}

// P3.2: long numbers, one of them much longer too.
func TestGcdOfManyWords(t *testing.T) {
	source := rand.New(rand.NewSource(9))
	for _, size := range [][2]int{{50, 50}, {300, 299}, {1000, 1000}, {700, 20}, {5000, 2}, {5000, 1}} {
		a, b := drawn(source, size[0]), drawn(source, size[1])
		checkGcd(t, a, b)
		common := drawn(source, 40)
		checkGcd(t, nat.Mul(a, common), nat.Mul(b, common))
	}
}

// P3.2: MaxBits is no bound of what two numbers have in common.
func TestGcdAboveMaxBits(t *testing.T) {
	far, farther := powerOfTwo(api.MaxBits+100), powerOfTwo(api.MaxBits+200)
	alike(t, "Gcd", Gcd(farther, far), far)
	alike(t, "Gcd", Gcd(nat.MulAdd(far, 9, 0), nat.MulAdd(far, 15, 0)), nat.MulAdd(far, 3, 0))
	alike(t, "Gcd", Gcd(far, nat.Of(3)), nat.Of(1))
	alike(t, "Lcm", Lcm(farther, far), farther)
	alike(t, "Lcm", Lcm(nat.MulAdd(far, 9, 0), nat.MulAdd(far, 15, 0)), nat.MulAdd(far, 45, 0))
}
