package zpoly_test

import (
	"math/rand"
	"slices"
	"testing"

	"quincunx/fpoly"
	"quincunx/zint"
	"quincunx/zpoly"
)

// checkLaws holds what makes a ring, with the calls alone.
func checkLaws(t *testing.T, a, b, c zpoly.Poly) {
	t.Helper()
	expect(t, "a + b = b + a", zpoly.Add(a, b), zpoly.Add(b, a))
	expect(t, "a b = b a", zpoly.Mul(a, b), zpoly.Mul(b, a))
	expect(t, "(a + b) + c = a + (b + c)", zpoly.Add(zpoly.Add(a, b), c), zpoly.Add(a, zpoly.Add(b, c)))
	expect(t, "(a b) c = a (b c)", zpoly.Mul(zpoly.Mul(a, b), c), zpoly.Mul(a, zpoly.Mul(b, c)))
	expect(t, "a (b + c) = a b + a c", zpoly.Mul(a, zpoly.Add(b, c)), zpoly.Add(zpoly.Mul(a, b), zpoly.Mul(a, c)))
	expect(t, "(a - b) + b = a", zpoly.Add(zpoly.Sub(a, b), b), zpoly.Norm(a))
	expect(t, "a - b = a + -b", zpoly.Sub(a, b), zpoly.Add(a, zpoly.Scale(b, zint.Of(-1))))
	expect(t, "a 1 = a", zpoly.Mul(a, zpoly.Of(1)), zpoly.Norm(a))
	expectNothing(t, "a - a = 0", zpoly.Sub(a, a))
}

// checkMaps holds what goes with sums and products: degrees, values, derivatives, and
// elements by a prime.
func checkMaps(t *testing.T, a, b zpoly.Poly, x zint.Int) {
	t.Helper()
	product, sum := zpoly.Mul(a, b), zpoly.Add(a, b)
	m, n := zpoly.Degree(a), zpoly.Degree(b)
	if degree := zpoly.Degree(product); m >= 0 && n >= 0 && degree != m+n || min(m, n) < 0 && degree != -1 {
		t.Fatal("the product's degree", a, b, degree)
	}
	if degree := zpoly.Degree(sum); m != n && degree != max(m, n) || degree > max(m, n) {
		t.Fatal("the sum's degree", a, b, degree)
	}
	at := func(a zpoly.Poly) zint.Int { return zpoly.Eval(a, x) }
	if !zint.Same(at(sum), zint.Add(at(a), at(b))) || !zint.Same(at(product), zint.Mul(at(a), at(b))) {
		t.Fatal("values", a, b, x)
	}
	left, right := zpoly.Mul(zpoly.Derive(a), b), zpoly.Mul(a, zpoly.Derive(b))
	expect(t, "(a b)' = a' b + a b'", zpoly.Derive(product), zpoly.Add(left, right))
	expect(t, "(a + b)' = a' + b'", zpoly.Derive(sum), zpoly.Add(zpoly.Derive(a), zpoly.Derive(b)))
	expect(t, "Scale is a product", zpoly.Scale(a, x), zpoly.Mul(a, zpoly.Poly{x}))
	for _, p := range []uint64{2, 3, greatest} {
		f := fieldOf(t, p)
		first, second := zpoly.Reduce(a, f), zpoly.Reduce(b, f)
		if !slices.Equal(zpoly.Reduce(product, f), fpoly.Mul(f, first, second)) || !slices.Equal(zpoly.Reduce(sum, f), fpoly.Add(f, first, second)) {
			t.Fatal("elements", p, a, b)
		}
	}
}

// checkContents holds P10.4, with the calls alone: the content of a product is the
// product of contents, and its primitive part that of primitive parts.
func checkContents(t *testing.T, a, b zpoly.Poly) {
	t.Helper()
	product := zpoly.Mul(a, b)
	expectInt(t, "the product's content", zpoly.Content(product), valueOf(zint.Mul(zpoly.Content(a), zpoly.Content(b))))
	expect(t, "the product's primitive part", zpoly.Primitive(product), zpoly.Mul(zpoly.Primitive(a), zpoly.Primitive(b)))
	back := zpoly.Scale(zpoly.Primitive(a), zpoly.Content(a))
	if len(back) > 0 && zint.Sign(a[len(back)-1]) < 0 {
		back = zpoly.Scale(back, zint.Of(-1))
	}
	expect(t, "the primitive part, content times", back, a)
}

// checkQuotients holds what quotients and rests are, with the calls alone.
func checkQuotients(t *testing.T, a, b zpoly.Poly) {
	t.Helper()
	isNought := zpoly.Degree(b) < 0
	q, r, ok := zpoly.Pseudo(a, b)
	if ok == isNought || ok && zpoly.Degree(r) >= zpoly.Degree(b) {
		t.Fatal("Pseudo", a, b, q, r, ok)
	}
	exact, ok := zpoly.Exact(zpoly.Mul(a, b), b)
	if ok == isNought {
		t.Fatal("Exact", a, b, exact, ok)
	}
	if isNought {
		return
	}
	expect(t, "a b by b", exact, a)
	times := zint.Of(1)
	for range zpoly.Degree(a) - zpoly.Degree(b) + 1 {
		times = zint.Mul(times, b[zpoly.Degree(b)])
	}
	expect(t, "q b + r = c a", zpoly.Add(zpoly.Mul(q, b), r), zpoly.Scale(a, times))
}

// P10.4: samples, and drawn polynomials.
func TestRing(t *testing.T) {
	source := rand.New(rand.NewSource(129))
	list := samples()
	for i, a := range list {
		for k, b := range list {
			checkLaws(t, a, b, list[(3*i+5*k)%len(list)])
			checkMaps(t, a, b, points()[(i+k)%len(points())])
			checkContents(t, a, b)
			checkQuotients(t, a, b)
		}
	}
	for range 500 {
		a, b := drawn(source, 9, 3), drawn(source, 9, 3)
		checkLaws(t, a, b, drawn(source, 9, 3))
		checkMaps(t, a, b, drawnInt(source, 2))
		checkContents(t, a, b)
		checkQuotients(t, a, b)
	}
}

// P10.4: contents that have primes in common, and numbers whose sums have more.
func TestContentOfProducts(t *testing.T) {
	list := slices.Concat(all(-2, 2, 3), all(-6, 6, 2))
	for i, a := range list {
		for k, b := range list {
			if (i+2*k)%5 == 0 {
				checkContents(t, a, b)
			}
		}
	}
	source := rand.New(rand.NewSource(130))
	for range 500 {
		a, b := drawnSmall(source, source.Intn(6), 6), drawnSmall(source, source.Intn(6), 6)
		checkContents(t, zpoly.Scale(a, zint.Of(source.Int63n(60)-30)), zpoly.Scale(b, zint.Of(source.Int63n(60)-30)))
	}
}

// P10.3, P10.4: the Gcd divides both, goes with products, and hangs on no order.
func TestLawsOfDivisors(t *testing.T) {
	source := rand.New(rand.NewSource(131))
	for range 300 {
		a, b, c := drawn(source, 5, 2), drawn(source, 5, 2), drawnSmall(source, source.Intn(4), 12)
		g := zpoly.Gcd(a, b)
		expect(t, "Gcd of b, a", zpoly.Gcd(b, a), g)
		expect(t, "Gcd of a c, b c", zpoly.Gcd(zpoly.Mul(a, c), zpoly.Mul(b, c)), zpoly.Mul(g, zpoly.Gcd(c, nil)))
		expect(t, "Gcd of a, b + a c", zpoly.Gcd(a, zpoly.Add(b, zpoly.Mul(a, c))), g)
		expect(t, "Gcd of three", zpoly.Gcd(g, c), zpoly.Gcd(a, zpoly.Gcd(b, c)))
		expectInt(t, "the Gcd's content", zpoly.Content(g), valueOf(zint.Gcd(zpoly.Content(a), zpoly.Content(b))))
		if zpoly.Degree(g) < 0 {
			continue
		}
		first, isFirst := zpoly.Exact(a, g)
		second, isSecond := zpoly.Exact(b, g)
		if !isFirst || !isSecond || zint.Sign(g[zpoly.Degree(g)]) <= 0 {
			t.Fatal("it divides both", a, b, g)
		}
		expect(t, "Gcd of the quotients", zpoly.Gcd(first, second), zpoly.Of(1))
	}
}
