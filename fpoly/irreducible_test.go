package fpoly_test

import (
	"math/big"
	"math/rand"
	"slices"
	"testing"

	"quincunx/fpoly"
)

// checkIrreducible holds what is told of a, however it is written, and of its
// multiples by elements.
func checkIrreducible(t *testing.T, p uint64, a fpoly.Poly, is bool) {
	t.Helper()
	f := fieldOf(t, p)
	for _, c := range []uint64{1, 2, p - 1} {
		if c%p == 0 {
			continue
		}
		for _, b := range forms(p, sumOf(p, nil, a, c)) {
			if fpoly.Irreducible(f, b) != is {
				t.Fatal(p, b, !is)
			}
		}
	}
}

// powersOf is the polynomial that has 1 at these places.
func powersOf(places ...int) fpoly.Poly {
	a := make(fpoly.Poly, slices.Max(places)+1)
	for _, place := range places {
		a[place] = 1
	}
	return a
}

// shiftOf is a with x + h in the place of x.
func shiftOf(p uint64, a fpoly.Poly, h uint64) fpoly.Poly {
	out := fpoly.Poly{}
	for _, word := range slices.Backward(a) {
		out = sumOf(p, productOf(p, out, fpoly.Poly{h, 1}), fpoly.Poly{word}, 1)
	}
	return out
}

// P9.3: 0, and those of the degree 0, aren't; those of the degree 1 are.
func TestIrreducibleOfTheLeastDegrees(t *testing.T) {
	source := rand.New(rand.NewSource(99))
	for _, p := range primes() {
		for _, nought := range noughts(p) {
			checkIrreducible(t, p, nought, false)
		}
		for range 20 {
			c, h := 1+source.Uint64()%(p-1), drawnWord(source, p)
			checkIrreducible(t, p, fpoly.Poly{c}, false)
			checkIrreducible(t, p, fpoly.Poly{h, c}, true)
		}
		checkIrreducible(t, p, fpoly.Poly{0, 1}, true)
		checkIrreducible(t, p, fpoly.Poly{1}, false)
	}
}

// P9.3: polynomials that are known, over small fields.
func TestIrreducible(t *testing.T) {
	for _, c := range []struct {
		p  uint64
		a  fpoly.Poly
		is bool
	}{
		{2, fpoly.Poly{1, 1, 1}, true}, {2, fpoly.Poly{1, 0, 1}, false}, {2, fpoly.Poly{0, 1, 1}, false}, {2, fpoly.Poly{0, 0, 1}, false}, {2, fpoly.Poly{1, 1, 0, 1}, true}, {2, fpoly.Poly{1, 0, 1, 1}, true},
		{2, fpoly.Poly{1, 1, 1, 1, 1}, true}, {2, fpoly.Poly{1, 0, 1, 0, 1}, false}, {2, fpoly.Poly{1, 1, 0, 0, 1}, true}, {2, fpoly.Poly{1, 1, 0, 0, 0, 1}, false}, {2, fpoly.Poly{1, 0, 1, 0, 0, 1}, true},
		{2, fpoly.Poly{1, 1, 0, 1, 1, 0, 0, 0, 1}, true}, {2, fpoly.Poly{1, 1, 1, 1, 1, 1, 1}, false}, {2, fpoly.Poly{1, 0, 0, 1, 0, 0, 1}, true}, {2, fpoly.Poly{1, 0, 1, 0, 1, 0, 1}, false},
		{3, fpoly.Poly{1, 0, 1}, true}, {3, fpoly.Poly{2, 0, 1}, false}, {3, fpoly.Poly{2, 1, 1}, true}, {3, fpoly.Poly{1, 0, 0, 0, 1}, false}, {3, fpoly.Poly{1, 2, 0, 1}, true}, {3, fpoly.Poly{1, 0, 2, 0, 1}, false},
		{5, fpoly.Poly{2, 0, 1}, true}, {5, fpoly.Poly{1, 0, 1}, false}, {5, fpoly.Poly{2, 0, 0, 0, 1}, true}, {5, fpoly.Poly{1, 1, 1}, true}, {5, fpoly.Poly{4, 0, 0, 0, 1}, false}, {5, fpoly.Poly{1, 0, 0, 0, 1}, false},
		{7, fpoly.Poly{1, 0, 1}, true}, {7, fpoly.Poly{2, 0, 0, 1}, true}, {7, fpoly.Poly{1, 1, 1}, false}, {greatest, fpoly.Poly{1, 0, 1}, true}, {greatest, fpoly.Poly{1, 1, 1}, false}, {1<<30 + 3, fpoly.Poly{1, 0, 1}, true},
	} {
		checkIrreducible(t, c.p, c.a, c.is)
	}
}

// productsOf marks by its code each monic polynomial of that degree that is a product
// of two monic ones of lesser degrees.
func productsOf(p uint64, degree int) []bool {
	is := make([]bool, powerOf(int(p), degree))
	for less := 1; 2*less <= degree; less++ {
		for _, a := range monics(p, less) {
			for _, b := range monics(p, degree-less) {
				code := 0
				for i, word := range slices.Backward(productOf(p, a, b)) {
					if i < degree {
						code = code*int(p) + int(word)
					}
				}
				is[code] = true
			}
		}
	}
	return is
}

// P9.3: all polynomials of the degrees up to that one: the products are found by
// multiplying.
func TestIrreducibleOverSmallFields(t *testing.T) {
	for _, c := range []struct {
		p      uint64
		degree int
	}{{2, 10}, {3, 6}, {5, 4}, {7, 3}, {11, 2}, {31, 2}} {
		f := fieldOf(t, c.p)
		for degree := 1; degree <= c.degree; degree++ {
			for code, is := range productsOf(c.p, degree) {
				a := append(polyOf(c.p, code, degree), 1)
				times := uint64(code)%(c.p-1) + 1
				if fpoly.Irreducible(f, a) == is || fpoly.Irreducible(f, sumOf(c.p, nil, a, times)) == is {
					t.Fatal(c.p, a, is)
				}
			}
		}
	}
}

// P9.3: a square and an element more is a product where the distance to it is a
// square: of degree 2, over all fields.
func TestIrreducibleOfDegreeTwo(t *testing.T) {
	source := rand.New(rand.NewSource(100))
	for _, p := range primes()[1:] {
		for range 60 {
			h, c := source.Uint64()%p, source.Uint64()%p
			square := productOf(p, fpoly.Poly{h, 1}, fpoly.Poly{h, 1})
			jacobi := big.Jacobi(new(big.Int).SetUint64(c), new(big.Int).SetUint64(p))
			checkIrreducible(t, p, sumOf(p, square, fpoly.Poly{c}, p-1), jacobi == -1)
		}
	}
}

// P9.3: of degree 3 a polynomial is a product just where it is 0 somewhere.
func TestIrreducibleOfDegreeThree(t *testing.T) {
	source := rand.New(rand.NewSource(101))
	for _, p := range []uint64{2, 3, 5, 7, 11, 31, 257} {
		for range 60 {
			a, hasRoot := drawnMonic(source, p, 3), false
			for x := range p {
				hasRoot = hasRoot || valueOf(p, a, x) == 0
			}
			checkIrreducible(t, p, a, !hasRoot)
		}
	}
}

// binomial is x to the n, less c.
func binomial(p uint64, n int, c uint64) fpoly.Poly {
	a := powersOf(n)
	a[0] = p - c
	return a
}

// P9.3: over the field of 2^31 - 1 the powers of 7 are all elements but 0, so that it
// is no power of degree q for a prime q that divides 2^31 - 2 = 2 3^2 7 11 31 151 331:
// x to the n less 7 is irreducible where n is made of these primes, and 4 doesn't
// divide it.
func TestIrreducibleBinomials(t *testing.T) {
	for _, n := range []int{2, 3, 6, 7, 9, 11, 14, 18, 21, 22, 27, 31, 33, 49, 54, 62, 66, 77, 121, 126, 151, 331} {
		checkIrreducible(t, greatest, binomial(greatest, n, 7), true)
	}
	for _, n := range []int{4, 5, 8, 10, 12, 13, 15, 16, 17, 20, 25, 36, 65, 100} {
		checkIrreducible(t, greatest, binomial(greatest, n, 7), false)
	}
	for _, n := range []int{2, 3, 6, 7, 14, 21} {
		for _, h := range []uint64{1, 5, greatest - 1} {
			checkIrreducible(t, greatest, shiftOf(greatest, binomial(greatest, n, 7), h), true)
			checkIrreducible(t, greatest, shiftOf(greatest, binomial(greatest, n, 1), h), false)
		}
	}
}

// P9.3: x to the p, less x, less c is irreducible where c isn't 0; else it has all
// elements for roots.
func TestIrreducibleOfRaisedRoots(t *testing.T) {
	for _, p := range []uint64{2, 3, 5, 7, 11, 13, 31, 101} {
		for _, c := range []uint64{0, 1, p / 2, p - 1} {
			a := binomial(p, int(p), c)
			a[1] = p - 1
			checkIrreducible(t, p, a, c != 0)
			checkIrreducible(t, p, shiftOf(p, a, 1), c != 0)
		}
	}
}

// P9.3: the sum of the powers 0 to r - 1 of x, for a prime r other than p, is
// irreducible just where p's powers are all rests by r but 0.
func TestIrreducibleOfUnitRoots(t *testing.T) {
	for _, p := range []uint64{2, 3, 5, 7, 11, 31, 257, 65537, greatest} {
		for _, r := range []uint64{3, 5, 7, 11, 13, 17, 19, 23, 29, 37, 53, 67} {
			if p == r {
				continue
			}
			order, power := 1, p%r
			for power != 1 {
				order, power = order+1, power*(p%r)%r
			}
			checkIrreducible(t, p, slices.Repeat(fpoly.Poly{1}, int(r)), order == int(r-1))
		}
	}
}

// P9.3: three powers of x over the field of 2, of which it is known.
func TestIrreducibleTrinomials(t *testing.T) {
	f := fieldOf(t, 2)
	for _, c := range [][2]int{{2, 1}, {3, 1}, {4, 1}, {5, 2}, {6, 1}, {6, 3}, {7, 1}, {7, 3}, {9, 1}, {10, 3}, {15, 1}, {17, 3}, {31, 3}, {60, 1}, {63, 1}, {89, 38}, {127, 1}, {127, 63}, {521, 32}} {
		if !fpoly.Irreducible(f, powersOf(c[0], c[1], 0)) || !fpoly.Irreducible(f, powersOf(c[0], c[0]-c[1], 0)) {
			t.Error(c)
		}
	}
	for _, c := range [][2]int{{4, 2}, {5, 1}, {8, 1}, {8, 3}, {8, 5}, {10, 2}, {13, 1}, {13, 6}, {16, 3}, {24, 7}, {32, 15}, {64, 3}, {128, 7}, {31, 1}, {127, 2}} {
		if fpoly.Irreducible(f, powersOf(c[0], c[1], 0)) {
			t.Error(c)
		}
	}
}

// P9.3: products of two irreducible ones, of the same degree and of others, and
// squares, over small and great fields.
func TestIrreducibleOfProducts(t *testing.T) {
	for _, c := range []struct {
		p    uint64
		list []fpoly.Poly
	}{
		{2, []fpoly.Poly{powersOf(2, 1, 0), powersOf(3, 1, 0), powersOf(3, 2, 0), powersOf(4, 1, 0), powersOf(4, 3, 0), powersOf(5, 2, 0), powersOf(5, 3, 0), powersOf(15, 1, 0), powersOf(31, 3, 0)}},
		{3, []fpoly.Poly{{1, 0, 1}, {2, 1, 1}, {2, 2, 1}, {1, 2, 0, 1}, {2, 2, 0, 1}}}, {5, []fpoly.Poly{{2, 0, 1}, {3, 0, 1}, {1, 1, 1}, {2, 0, 0, 0, 1}, {3, 0, 0, 0, 1}}},
		{7, []fpoly.Poly{{1, 0, 1}, {2, 0, 1}, {2, 0, 0, 1}, {3, 0, 0, 1}}},
		{greatest, []fpoly.Poly{{1, 0, 1}, binomial(greatest, 2, 7), binomial(greatest, 2, 7*4), binomial(greatest, 3, 7), binomial(greatest, 3, 7*8), binomial(greatest, 7, 7), binomial(greatest, 21, 7), {0, 1}, {1, 1}}},
	} {
		for _, a := range c.list {
			checkIrreducible(t, c.p, a, true)
			for _, b := range c.list {
				product := productOf(c.p, a, b)
				checkIrreducible(t, c.p, product, false)
				checkIrreducible(t, c.p, productOf(c.p, product, a), false)
			}
		}
	}
}

// countOf is how many monic irreducible polynomials of that degree there are: each
// element of the field of p to the degree is a root of just one whose degree divides
// this one.
func countOf(p uint64, degree int) int {
	roots := powerOf(int(p), degree)
	for less := 1; less < degree; less++ {
		if degree%less == 0 {
			roots -= less * countOf(p, less)
		}
	}
	return roots / degree
}

// P9.3: how many there are.
func TestHowManyAreIrreducible(t *testing.T) {
	for _, c := range []struct {
		p      uint64
		degree int
	}{{2, 12}, {3, 7}, {5, 5}, {7, 4}, {11, 3}} {
		f := fieldOf(t, c.p)
		for degree := 1; degree <= c.degree; degree++ {
			count := 0
			for _, a := range monics(c.p, degree) {
				if fpoly.Irreducible(f, a) {
					count++
				}
			}
			if count != countOf(c.p, degree) {
				t.Fatal(c.p, degree, count)
			}
		}
	}
}
