package nat

import (
	"slices"
	"testing"
)

func same(t *testing.T, law string, a, b Nat) {
	t.Helper()
	if !slices.Equal(a, b) {
		t.Fatalf("%s: %v and %v", law, a, b)
	}
}

// P1.3: the laws of two.
func TestLawsOfTwo(t *testing.T) {
	for _, a := range samples() {
		same(t, "a + 0", Add(a, nil), Norm(a))
		same(t, "a 1", Mul(a, Of(1)), Norm(a))
		same(t, "a 0", Mul(a, nil), nil)
		for _, b := range samples() {
			sum := Add(a, b)
			same(t, "a + b", sum, Add(b, a))
			same(t, "a b", Mul(a, b), Mul(b, a))
			rest, ok := Sub(sum, b)
			if !ok {
				t.Fatal(a, b)
			}
			same(t, "a + b - b", rest, Norm(a))
			if Cmp(a, b) != -Cmp(b, a) || Cmp(sum, a) < 0 {
				t.Fatal(a, b)
			}
			if _, ok := Sub(a, b); ok != (Cmp(a, b) >= 0) {
				t.Fatal("Sub goes with Cmp", a, b)
			}
		}
	}
}

// P1.3: the laws of three.
func TestLawsOfThree(t *testing.T) {
	list := samples()
	for i, a := range list {
		for j, b := range list {
			c := list[(3*i+7*j)%len(list)]
			same(t, "a + b + c", Add(Add(a, b), c), Add(a, Add(b, c)))
			same(t, "a b c", Mul(Mul(a, b), c), Mul(a, Mul(b, c)))
			same(t, "a (b + c)", Mul(a, Add(b, c)), Add(Mul(a, b), Mul(a, c)))
			order := Cmp(a, b)
			if Cmp(Add(a, c), Add(b, c)) != order {
				t.Fatal("order of sums", a, b, c)
			}
			if Bits(c) != 0 && Cmp(Mul(a, c), Mul(b, c)) != order {
				t.Fatal("order of products", a, b, c)
			}
		}
	}
}

// P1.3: shifts and products by a word are what Mul tells.
func TestShiftsAreProducts(t *testing.T) {
	for _, a := range samples() {
		for _, n := range shifts {
			power, _ := Shl(Of(1), n)
			up, _ := Shl(a, n)
			same(t, "a 2^n", up, Mul(a, power))
			back, _ := Shr(up, n)
			same(t, "a 2^n by 2^n", back, Norm(a))
		}
		for _, x := range wordSamples() {
			same(t, "a x + x", MulAdd(a, x, x), Add(Mul(a, Of(x)), Of(x)))
		}
	}
}
