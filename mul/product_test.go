package mul

import (
	"math/big"
	"slices"
	"testing"

	"quincunx/nat"
)

func checkProduct(t *testing.T, l []nat.Nat) {
	t.Helper()
	want := big.NewInt(1)
	for _, a := range l {
		want.Mul(want, valueOf(a))
	}
	expect(t, "Product", Product(l), want)
}

// P2.1: Product of none, and of one.
func TestProductOfFew(t *testing.T) {
	for _, l := range [][]nat.Nat{nil, {}} {
		if a := Product(l); !slices.Equal(a, nat.Nat{1}) {
			t.Error("of none:", a)
		}
	}
	for _, a := range append(samples(), patterns(3*short)...) {
		checkProduct(t, []nat.Nat{a})
		checkProduct(t, []nat.Nat{a, a})
	}
	if a := Product([]nat.Nat{{5, 0, 0}}); !slices.Equal(a, nat.Nat{5}) {
		t.Error("of one that isn't normal:", a)
	}
	if a := Product([]nat.Nat{nil}); len(a) != 0 {
		t.Error("of 0 alone:", a)
	}
}

// P2.1: Product.
func TestProduct(t *testing.T) {
	if a := Product([]nat.Nat{nat.Of(2), nat.Of(3), nat.Of(7)}); !slices.Equal(a, nat.Nat{42}) {
		t.Error(a)
	}
	checkProduct(t, samples())
	for _, a := range samples()[4:] {
		for _, b := range samples()[4:] {
			checkProduct(t, []nat.Nat{a, b, {3, 0}})
		}
	}
	var mixed []nat.Nat
	for _, n := range sizes() {
		mixed = append(mixed, patterns(n)...)
		mixed = append(mixed, noughts(patterns(n)[0], 4))
		checkProduct(t, mixed)
	}
	slices.Reverse(mixed)
	checkProduct(t, mixed)
	checkProduct(t, append(mixed, nat.Nat{0, 0}))
	checkProduct(t, append([]nat.Nat{nil}, mixed...))
}

// P2.1: Product of very many.
func TestProductOfMany(t *testing.T) {
	factorial := make([]nat.Nat, 5000)
	for i := range factorial {
		factorial[i] = nat.Of(uint64(i) + 1)
	}
	expect(t, "Product", Product(factorial), new(big.Int).MulRange(1, 5000))
	ones := slices.Repeat([]nat.Nat{{1, 0}}, 20000)
	if a := Product(ones); !slices.Equal(a, nat.Nat{1}) {
		t.Error(len(a))
	}
	ones[10000] = nil
	if a := Product(ones); len(a) != 0 {
		t.Error(len(a))
	}
}

// Ways: what is taken out of the heap is the least one in it.
func TestPileGivesTheLeast(t *testing.T) {
	var list []nat.Nat
	for _, n := range []int{3, 1, 2} {
		list = append(list, patterns(n)...)
	}
	list = append(list, samples()...)
	p := pileOf(list[:20])
	for _, a := range list[20:] {
		p.put(a)
	}
	slices.SortFunc(list, nat.Cmp)
	for i, want := range list {
		if a := p.take(); nat.Cmp(a, want) != 0 {
			t.Fatal(i, a, want)
		}
	}
	if p.Len() != 0 {
		t.Error(p.Len())
	}
}

// Ways: the two least ones of the heap are multiplied.
func TestTheLeastAreMultiplied(t *testing.T) {
	p := pileOf([]nat.Nat{nat.Of(11), nat.Of(2), nat.Of(13), nat.Of(5), nat.Of(3)})
	var taken []uint64
	take := func() nat.Nat {
		a := p.take()
		taken = append(taken, a[0])
		return a
	}
	if a := joinAll(p.Len, take, p.put); !slices.Equal(a, nat.Nat{4290}) {
		t.Error(a)
	}
	if want := []uint64{2, 3, 5, 6, 11, 13, 30, 143, 4290}; !slices.Equal(taken, want) {
		t.Error(taken)
	}
}
