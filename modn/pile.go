package modn

import (
	"container/heap"

	"quincunx/zint"
)

// pile is a heap of classes, the one with the least modulus first.
type pile struct {
	list []class
}

// pileOf holds the classes of rests, and moduli above 0, of which there are as
// many. They are copied, as one alone is answered as it stands here.
func pileOf(rests, moduli []zint.Int) *pile {
	p := &pile{make([]class, len(moduli))}
	for i, m := range moduli {
		rest, _ := Mod(rests[i], m)
		p.list[i] = class{rest: rest, modulus: zint.Abs(m)}
	}
	heap.Init(p)
	return p
}

// take takes the one with the least modulus out.
func (p *pile) take() class {
	return heap.Pop(p).(class)
}

// put puts c in.
func (p *pile) put(c class) {
	heap.Push(p, c)
}

// Len is what container/heap asks.
func (p *pile) Len() int {
	return len(p.list)
}

// Less is what container/heap asks.
func (p *pile) Less(i, k int) bool {
	return zint.Cmp(p.list[i].modulus, p.list[k].modulus) < 0
}

// Swap is what container/heap asks.
func (p *pile) Swap(i, k int) {
	p.list[i], p.list[k] = p.list[k], p.list[i]
}

// Push is what container/heap asks: it puts x at the end.
func (p *pile) Push(x any) {
	p.list = append(p.list, x.(class))
}

// Pop is what container/heap asks: it takes the last one.
func (p *pile) Pop() any {
	last := len(p.list) - 1
	c := p.list[last]
	p.list = p.list[:last]
	return c
}
