package zint

import (
	"quincunx/div"
	"quincunx/lehmer"
	"quincunx/mul"
	"quincunx/nat"
)

const wordBits = 64

// Gcd is the greatest number that divides both; 0 of 0 and 0.
func Gcd(a, b Int) Int {
	return signed(div.Gcd(a.A, b.A), false)
}

// Xgcd is g, x and y with x a + y b = g, the Gcd, and with the least x from 0 on;
// if b is 0, y is 0, and x is a's sign.
func Xgcd(a, b Int) (Int, Int, Int) {
	if Sign(b) == 0 {
		return Abs(a), Of(int64(Sign(a))), Int{}
	}
	w := wayOf(a.A, b.A)
	w.goOn()
	g := signed(w.a, false)
	// All that serve as x lie as far apart as w.y, which is b by g.
	_, x, _ := Euclid(Int{Neg: w.isBelow != a.Neg, A: w.x}, Int{A: w.y})
	y, _ := Exact(Sub(g, Mul(x, a)), b)
	return g, x, y
}

// way is Euclid's way of a number m and of n's rest by m, in memory of its own. Up
// to multiples of m, a is x n, and b is y n, where x counts below 0 if isBelow is
// true, and y if it isn't. As their signs differ, steps join x and y where they
// take a and b: a y + b x stays m, so that neither needs more words than m has,
// and y is m by a, when b is 0.
type way struct {
	a, b, x, y nat.Nat
	isBelow    bool
}

// wayOf is the way's beginning.
func wayOf(n, m nat.Nat) *way {
	a := nat.Norm(m)
	b, _ := div.Mod(n, m)
	size := len(a)
	return &way{a: a, b: room(b, size), x: room(nil, size), y: room(nat.Of(1), size), isBelow: true}
}

// room is a with noughts behind it, of so many words.
func room(a nat.Nat, size int) nat.Nat {
	own := make(nat.Nat, size)
	copy(own, a)
	return own
}

// goOn goes the way to its end: b is 0, and a the common divisor.
func (w *way) goOn() {
	for nat.Bits(w.b) > 0 {
		if j := lehmer.Of(w.a, w.b); j.IsNone() {
			w.step()
		} else {
			j.Take(w.a, w.b)
			j.Join(w.x, w.y)
		}
		w.order()
	}
}

// step takes b out of a: the one step that is always sure.
func (w *way) step() {
	times, rest, _ := div.DivMod(w.a, w.b)
	fill(w.a, rest)
	fill(w.x, nat.Add(w.x, mul.Mul(times, w.y)))
}

// order brings the greater one of a and b ahead, and leaves away the noughts that
// both have at their end.
func (w *way) order() {
	if nat.Cmp(w.a, w.b) < 0 {
		w.a, w.b, w.x, w.y = w.b, w.a, w.y, w.x
		w.isBelow = !w.isBelow
	}
	size := (nat.Bits(w.a) + wordBits - 1) / wordBits
	w.a, w.b = w.a[:size], w.b[:size]
}

// fill writes a to out, and noughts to what is left of out.
func fill(out, a nat.Nat) {
	n := copy(out, a)
	clear(out[n:])
}
