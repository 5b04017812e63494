package dec

import (
	"quincunx/div"
	"quincunx/mul"
	"quincunx/nat"
)

// Numbers are cut into units: as many digits as any word holds, and the power of
// 10 that comes behind them, which is above 2^unitBits.
const (
	unitDigits = 18
	unitBits   = 59
	unit       = 1000000000000000000
)

// doublings is how often length must be doubled to be as great as size.
func doublings(length, size int) int {
	n := 0
	for length < size {
		length *= 2
		n++
	}
	return n
}

// powers holds n powers of 10, each the square of the one ahead: the one at i has
// 2^i units of noughts.
func powers(n int) []nat.Nat {
	list := make([]nat.Nat, n)
	power := nat.Of(unit)
	for i := range list {
		if i > 0 {
			power = mul.Square(power)
		}
		list[i] = power
	}
	return list
}

// write fills digits, of 2^n units for n cuts, with a's, and with noughts ahead: a
// is less than the power of 10 that comes behind them.
func write(digits []byte, a nat.Nat, cuts []nat.Nat) {
	if len(cuts) == 0 {
		x, _ := nat.Word(a)
		writeWord(digits, x)
		return
	}
	last, half := len(cuts)-1, len(digits)/2
	high, low, _ := div.DivMod(a, cuts[last])
	write(digits[:half], high, cuts[:last])
	write(digits[half:], low, cuts[:last])
}

func writeWord(digits []byte, x uint64) {
	for i := len(digits) - 1; i >= 0; i-- {
		digits[i] = byte('0' + x%10)
		x /= 10
	}
}

// read is the number of the digits s, at most 2^n units for n cuts.
func read(s string, cuts []nat.Nat) nat.Nat {
	if len(cuts) == 0 {
		return nat.Of(readWord(s))
	}
	last := len(cuts) - 1
	at := len(s) - unitDigits<<last
	if at <= 0 {
		return read(s, cuts[:last])
	}
	high, low := read(s[:at], cuts[:last]), read(s[at:], cuts[:last])
	return nat.Add(mul.Mul(high, cuts[last]), low)
}

func readWord(s string) uint64 {
	x := uint64(0)
	for i := range len(s) {
		x = 10*x + valueOf(s[i])
	}
	return x
}
