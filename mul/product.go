package mul

import (
	"container/heap"

	"quincunx/nat"
)

// Product is the product of all; 1 of none.
func Product(l []nat.Nat) nat.Nat {
	p := pileOf(l)
	return joinAll(p.Len, p.take, p.put)
}

// joinAll multiplies the two least ones of a heap, and puts the product back,
// until one is left: so the factors stay of like lengths, and great ones are
// seldom multiplied. What is left is copied, as it may be an argument's words.
func joinAll(size func() int, take func() nat.Nat, put func(nat.Nat)) nat.Nat {
	if size() == 0 {
		return nat.Of(1)
	}
	for size() > 1 {
		put(Mul(take(), take()))
	}
	return nat.Norm(take())
}

// pile is a heap of naturals, the least one first. Its methods are of the
// pointer throughout: a method-value of a copy would keep the list as it was.
type pile struct {
	list []nat.Nat
}

func pileOf(l []nat.Nat) *pile {
	p := &pile{make([]nat.Nat, len(l))}
	for i, a := range l {
		p.list[i] = trim(a)
	}
	heap.Init(p)
	return p
}

// take takes the least one out.
func (p *pile) take() nat.Nat {
	return heap.Pop(p).(nat.Nat)
}

// put puts a in.
func (p *pile) put(a nat.Nat) {
	heap.Push(p, a)
}

// Len is what container/heap asks.
func (p *pile) Len() int {
	return len(p.list)
}

// Less is what container/heap asks.
func (p *pile) Less(i, k int) bool {
	return nat.Cmp(p.list[i], p.list[k]) < 0
}

// Swap is what container/heap asks.
func (p *pile) Swap(i, k int) {
	p.list[i], p.list[k] = p.list[k], p.list[i]
}

// Push is what container/heap asks: it puts x at the end.
func (p *pile) Push(x any) {
	p.list = append(p.list, x.(nat.Nat))
}

// Pop is what container/heap asks: it takes the last one.
func (p *pile) Pop() any {
	last := len(p.list) - 1
	a := p.list[last]
	p.list = p.list[:last]
	return a
}
