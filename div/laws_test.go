package div

import (
	"math/rand"
	"testing"

	"quincunx/mul"
	"quincunx/nat"
)

// mixed holds naturals of many lengths.
func mixed() []nat.Nat {
	list := few()
	source := rand.New(rand.NewSource(13))
	for _, n := range []int{2, 3, 5, 9, 40, 41, 90, 200} {
		for range 3 {
			list = append(list, drawn(source, n))
		}
		list = append(list, longer(drawn(source, n), n))
	}
	return list
}

// P3.3: a is the quotient times b, and the rest, that is less than b.
func TestQuotientTimesDivisor(t *testing.T) {
	for _, a := range mixed() {
		for _, b := range mixed() {
			quotient, rest, ok := DivMod(a, b)
			if ok != (nat.Bits(b) > 0) {
				t.Fatal(a, b, ok)
			}
			if !ok {
				continue
			}
			alike(t, "q b + r", nat.Add(mul.Mul(quotient, b), rest), nat.Norm(a))
			if nat.Cmp(rest, b) >= 0 {
				t.Fatal("the rest isn't less", a, b, rest)
			}
		}
	}
}

// P3.3: a product, and what is less than b, are divided into just these.
func TestQuotientsOfProducts(t *testing.T) {
	list := mixed()
	for i, q := range list {
		for k, b := range list {
			r, ok := Mod(list[(3*i+7*k)%len(list)], b)
			if !ok {
				continue
			}
			product := mul.Mul(q, b)
			quotient, rest, _ := DivMod(nat.Add(product, r), b)
			alike(t, "quotient", quotient, nat.Norm(q))
			alike(t, "rest", rest, r)
			exact, ok := Exact(product, b)
			if !ok {
				t.Fatal("Exact", q, b)
			}
			alike(t, "Exact", exact, nat.Norm(q))
			if _, ok := Exact(nat.Add(product, r), b); ok != (len(r) == 0) {
				t.Fatal("Exact of no multiple", q, b, r)
			}
		}
	}
}

// P3.3: Small is DivMod by a word.
func TestSmallIsDivMod(t *testing.T) {
	for _, a := range mixed() {
		for _, x := range words() {
			quotient, rest, _ := Small(a, x)
			other, left, _ := DivMod(a, nat.Of(x))
			alike(t, "quotient", quotient, other)
			alike(t, "rest", nat.Of(rest), left)
		}
	}
}

// P3.2: Gcd divides both, Lcm is divided by both, and their product is a b.
func TestGcdTimesLcm(t *testing.T) {
	for _, a := range mixed() {
		for _, b := range mixed() {
			gcd, lcm := Gcd(a, b), Lcm(a, b)
			alike(t, "gcd lcm", mul.Mul(gcd, lcm), mul.Mul(a, b))
			for _, x := range []nat.Nat{a, b} {
				if _, ok := Exact(x, gcd); ok != (len(gcd) > 0) {
					t.Fatal("Gcd doesn't divide", x, gcd)
				}
				if _, ok := Exact(lcm, x); ok != (nat.Bits(x) > 0) {
					t.Fatal("Lcm isn't divided", x, lcm)
				}
			}
		}
	}
}

// P3.2: a is the root's square, and the rest, that is at most twice the root.
func TestRootSquared(t *testing.T) {
	for _, a := range mixed() {
		root, rest := Root(a)
		alike(t, "r r + d", nat.Add(mul.Square(root), rest), nat.Norm(a))
		if nat.Cmp(rest, nat.MulAdd(root, 2, 0)) > 0 {
			t.Fatal("the rest is too great", a, root, rest)
		}
	}
}
