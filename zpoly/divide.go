package zpoly

import "quincunx/zint"

// Pseudo is q and r with c a = q b + r, where c is the number at b's degree, to the
// power of how many steps there are; false, if b is 0. Each step multiplies all of the
// rest by that number: what no step has touched yet waits for its turn, and for the
// power that is due then.
func Pseudo(a, b Poly) (Poly, Poly, bool) {
	degree := Degree(b)
	if degree < 0 {
		return nil, nil, false
	}
	rest, power := Norm(a), zint.Of(1)
	quotient := make(Poly, max(0, len(rest)-degree))
	for i := len(quotient) - 1; i >= 0; i-- {
		rest[i] = zint.Mul(rest[i], power)
		power = zint.Mul(power, b[degree])
		quotient[i] = rest[i+degree]
		multiply(rest[i:i+degree], b[degree])
		gather(rest[i:], b[:degree], zint.Neg(quotient[i]))
	}
	raise(quotient, b[degree])
	return quotient, trim(rest[:min(degree, len(rest))]), true
}

// multiply makes each of the numbers c times as great.
func multiply(numbers []zint.Int, c zint.Int) {
	for i, number := range numbers {
		numbers[i] = zint.Mul(c, number)
	}
}

// raise makes the number at the place i x to the i times as great.
func raise(numbers []zint.Int, x zint.Int) {
	power := zint.Of(1)
	for i, number := range numbers {
		numbers[i] = zint.Mul(number, power)
		power = zint.Mul(power, x)
	}
}

// Exact is q with a = q b; false, if b is 0, or there is none: where the number at b's
// degree doesn't divide what it must, or something is left.
func Exact(a, b Poly) (Poly, bool) {
	degree := Degree(b)
	if degree < 0 {
		return nil, false
	}
	rest := Norm(a)
	quotient := make(Poly, max(0, len(rest)-degree))
	for i := len(quotient) - 1; i >= 0; i-- {
		times, ok := zint.Exact(rest[i+degree], b[degree])
		if !ok {
			return nil, false
		}
		quotient[i] = times
		gather(rest[i:], b[:degree], zint.Neg(times))
	}
	if Degree(rest[:min(degree, len(rest))]) >= 0 {
		return nil, false
	}
	return quotient, true
}
