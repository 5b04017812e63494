package lehmer

import (
	"math/bits"

	"quincunx/nat"
)

// Take goes the steps with a and b, that have as many words. The words that the
// products have behind them needn't be reckoned: they cancel, as neither
// difference is below 0, or above a.
func (j Jump) Take(a, b nat.Nat) {
	first, second := twoProducts{x: j.P, y: j.Q}, twoProducts{x: j.S, y: j.R}
	for i, v := range a {
		w := b[i]
		a[i], b[i] = first.difference(v, w), second.difference(w, v)
	}
}

// Join goes the steps with the cofactors of a and b, that have as many words. As
// one of them counts below 0, they are added: x becomes P x + Q y, and y becomes
// S y + R x. They must have the words that the sums need.
func (j Jump) Join(x, y nat.Nat) {
	first, second := twoProducts{x: j.P, y: j.Q}, twoProducts{x: j.S, y: j.R}
	for i, v := range x {
		w := y[i]
		x[i], y[i] = first.sum(v, w), second.sum(w, v)
	}
}

// twoProducts is x times a number and y times another one, word by word, with
// what runs over: of each, and of what is made of both.
type twoProducts struct {
	x, y          uint64
	first, second uint64
	over          uint64
}

func (p *twoProducts) difference(v, w uint64) uint64 {
	more, less := p.next(v, w)
	word, over := bits.Sub64(more, less, p.over)
	p.over = over
	return word
}

func (p *twoProducts) sum(v, w uint64) uint64 {
	one, other := p.next(v, w)
	word, over := bits.Add64(one, other, p.over)
	p.over = over
	return word
}

func (p *twoProducts) next(v, w uint64) (uint64, uint64) {
	var one, other uint64
	one, p.first = mulAdd(v, p.x, p.first)
	other, p.second = mulAdd(w, p.y, p.second)
	return one, other
}

// mulAdd is v times x, and y: the lesser word, and the greater one.
func mulAdd(v, x, y uint64) (uint64, uint64) {
	high, low := bits.Mul64(v, x)
	low, over := bits.Add64(low, y, 0)
	return low, high + over
}
