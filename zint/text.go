package zint

import (
	"strings"

	"quincunx/dec"
)

// Print is the number's digits, with a - ahead below 0.
func Print(a Int) string {
	digits := dec.Print(a.A)
	if Sign(a) < 0 {
		return "-" + digits
	}
	return digits
}

// Parse is the number of a numeral, or of one other than 0 with a - ahead; false,
// if s is neither.
func Parse(s string) (Int, bool) {
	digits, isBelow := strings.CutPrefix(s, "-")
	a, ok := dec.Parse(digits)
	if !ok || isBelow && len(a) == 0 {
		return Int{}, false
	}
	return signed(a, isBelow), true
}
