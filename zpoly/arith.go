package zpoly

import "quincunx/zint"

// Add is the sum.
func Add(a, b Poly) Poly {
	return join(a, b, zint.Add)
}

// Sub is the difference.
func Sub(a, b Poly) Poly {
	return join(a, b, zint.Sub)
}

// join asks for each place's number by both numbers that stand there.
func join(a, b Poly, of func(x, y zint.Int) zint.Int) Poly {
	out := make(Poly, max(len(a), len(b)))
	for i := range out {
		out[i] = of(at(a, i), at(b, i))
	}
	return trim(out)
}

// at is the number of the power i; 0 behind the last one.
func at(a Poly, i int) zint.Int {
	if i < len(a) {
		return a[i]
	}
	return zint.Int{}
}

// Scale is c times a.
func Scale(a Poly, c zint.Int) Poly {
	out := make(Poly, len(a))
	for i, number := range a {
		out[i] = zint.Mul(c, number)
	}
	return trim(out)
}

// Mul is the product.
func Mul(a, b Poly) Poly {
	a, b = trim(a), trim(b)
	if len(a) == 0 || len(b) == 0 {
		return nil
	}
	sums := make(Poly, len(a)+len(b)-1)
	for i, number := range a {
		gather(sums[i:], b, number)
	}
	return sums
}

// gather puts c times a to the sums, place by place.
func gather(sums, a Poly, c zint.Int) {
	if zint.Sign(c) == 0 {
		return
	}
	for i, number := range a {
		sums[i] = zint.Add(sums[i], zint.Mul(c, number))
	}
}
