package rat

import (
	"strings"

	"quincunx/zint"
)

// Print is N's digits, and, if D isn't 1, a / and D's, when a is normal.
func Print(a Rat) string {
	a = normal(a.N, a.D)
	if isOne(a.D) {
		return zint.Print(a.N)
	}
	return zint.Print(a.N) + "/" + zint.Print(a.D)
}

// Parse is the number of what some normal fraction is printed as, its numbers of at
// most MaxDigits digits; false, if s is none.
func Parse(s string) (Rat, bool) {
	above, below, hasBelow := strings.Cut(s, "/")
	n, ok := zint.Parse(above)
	if !ok {
		return Of(zint.Int{}), false
	}
	if !hasBelow {
		return Of(n), true
	}
	d, ok := zint.Parse(below)
	a := normal(n, d)
	if !ok || isOne(d) || !zint.Same(a.D, d) {
		return Of(zint.Int{}), false
	}
	return a, true
}

func isOne(a zint.Int) bool {
	return zint.Same(a, zint.Of(1))
}
