package mul

import (
	"slices"
	"testing"

	"quincunx/nat"
)

// mixed holds naturals of many lengths.
func mixed() []nat.Nat {
	list := samples()
	for _, n := range []int{short - 1, short, 2*short + 1, 300} {
		list = append(list, patterns(n)...)
		list = append(list, noughts(patterns(n)[0], short))
	}
	return list
}

// P2.2: products are layer 1's.
func TestProductsAreLayerOnes(t *testing.T) {
	for _, a := range mixed() {
		for _, b := range mixed() {
			want := nat.Mul(a, b)
			same(t, "Mul", Mul(a, b), want)
			same(t, "Product", Product([]nat.Nat{a, b}), want)
		}
		same(t, "Square", Square(a), nat.Mul(a, a))
	}
}

// P2.2: the laws of a ring.
func TestLaws(t *testing.T) {
	list := mixed()
	for i, a := range list {
		for j, b := range list {
			c := list[(3*i+7*j)%len(list)]
			same(t, "a b", Mul(a, b), Mul(b, a))
			same(t, "a b c", Mul(Mul(a, b), c), Mul(a, Mul(b, c)))
			same(t, "a (b + c)", Mul(a, nat.Add(b, c)), nat.Add(Mul(a, b), Mul(a, c)))
			same(t, "Product", Product([]nat.Nat{a, b, c}), Mul(c, Mul(b, a)))
		}
	}
}

// P2.2: powers are products of so many.
func TestPowersAreProducts(t *testing.T) {
	for _, a := range mixed() {
		product := nat.Of(1)
		for n := range 9 {
			power, ok := Pow(a, n)
			if !ok {
				t.Fatal(len(a), n)
			}
			same(t, "a^n", power, product)
			same(t, "a a ..", Product(slices.Repeat([]nat.Nat{a}, n)), product)
			product = nat.Mul(product, a)
		}
	}
}
