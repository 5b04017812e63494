package modn

import (
	"math/rand"
	"testing"

	"quincunx/zint"
)

func modOf(t *testing.T, a, m zint.Int) zint.Int {
	t.Helper()
	rest, ok := Mod(a, m)
	if !ok {
		t.Fatal(a, m)
	}
	return rest
}

func checkLaws(t *testing.T, a, b, m zint.Int) {
	t.Helper()
	r, s := modOf(t, a, m), modOf(t, b, m)
	alike(t, "rest of a sum", modOf(t, zint.Add(a, b), m), modOf(t, zint.Add(r, s), m))
	alike(t, "rest of a difference", modOf(t, zint.Sub(a, b), m), modOf(t, zint.Sub(r, s), m))
	alike(t, "rest of a product", modOf(t, zint.Mul(a, b), m), modOf(t, zint.Mul(r, s), m))
	alike(t, "rest of a rest", modOf(t, r, m), r)
	alike(t, "rest of more", modOf(t, zint.Add(a, zint.Mul(b, m)), m), r)
	alike(t, "rest of -a", modOf(t, zint.Neg(a), m), modOf(t, zint.Sub(m, r), m))
}

// P6.4: rests of sums and products are those of rests.
func TestLaws(t *testing.T) {
	list := mixed()
	for i, a := range list {
		for k, b := range list {
			checkLaws(t, a, b, moduli()[(3*i+5*k)%len(moduli())])
		}
	}
	source := rand.New(rand.NewSource(65))
	for range 3000 {
		checkLaws(t, drawn(source, 1+source.Intn(5)), drawn(source, 1+source.Intn(5)), drawnModulus(source, 4))
	}
}

// P6.1, P6.4: powers go with sums of exponents, and inverses come back.
func TestLawsOfPowers(t *testing.T) {
	source := rand.New(rand.NewSource(66))
	for range 500 {
		a, m := drawn(source, 1+source.Intn(3)), drawnModulus(source, 3)
		e, f := zint.Of(int64(source.Intn(2000)-1000)), zint.Of(int64(source.Intn(2000)-1000))
		inverse, ok := Inverse(a, m)
		if !ok {
			continue
		}
		first, _ := Pow(a, e, m)
		second, _ := Pow(a, f, m)
		both, _ := Pow(a, zint.Add(e, f), m)
		alike(t, "a to the e + f", modOf(t, zint.Mul(first, second), m), both)
		back, _ := Inverse(inverse, m)
		alike(t, "the inverse's", back, modOf(t, a, m))
		below, _ := Pow(inverse, e, m)
		alike(t, "one less", modOf(t, zint.Mul(below, first), m), modOf(t, zint.Of(1), m))
	}
}

// P6.1: Fermat: by a prime p each number to the p is its rest.
func TestFermat(t *testing.T) {
	for p := uint64(1); p < 400; {
		p, _ = Next(p)
		m := zint.Of(int64(p))
		for _, a := range mixed() {
			power, _ := Pow(a, m, m)
			alike(t, "a to the p", power, modOf(t, a, m))
		}
	}
}
