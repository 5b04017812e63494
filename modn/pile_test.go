package modn

import (
	"math/big"
	"math/rand"
	"slices"
	"testing"

	"quincunx/zint"
)

// Ways: what is taken out of the heap is the one with the least modulus in it.
func TestPileGivesTheLeast(t *testing.T) {
	source := rand.New(rand.NewSource(67))
	var rests, list []zint.Int
	for _, m := range append(moduli(), ofAll(7, 3, 9, 3, 1)...) {
		rests, list = append(rests, drawn(source, 2)), append(list, m)
	}
	half := len(list) / 2
	p := pileOf(rests[:half], list[:half])
	for i := half; i < len(list); i++ {
		p.put(class{rests[i], list[i]})
	}
	slices.SortFunc(list, zint.Cmp)
	for i, want := range list {
		if c := p.take(); !zint.Same(c.modulus, want) {
			t.Fatal(i, c.modulus, want)
		}
	}
	if p.Len() != 0 {
		t.Error(p.Len())
	}
}

// Ways: each modulus keeps its rest.
func TestPileKeepsRests(t *testing.T) {
	p := pileOf(ofAll(10, -1, 8, 4), ofAll(11, 2, 13, 5))
	for _, want := range [][2]int64{{1, 2}, {4, 5}, {10, 11}, {8, 13}} {
		c := p.take()
		expect(t, "rest", c.rest, big.NewInt(want[0]))
		expect(t, "modulus", c.modulus, big.NewInt(want[1]))
	}
}

// Ways: two classes are joined, or have nothing in common.
func TestJoin(t *testing.T) {
	c, ok := join(class{zint.Of(1), zint.Of(4)}, class{zint.Of(3), zint.Of(6)})
	if !ok {
		t.Fatal(c)
	}
	expect(t, "rest", c.rest, big.NewInt(9))
	expect(t, "modulus", c.modulus, big.NewInt(12))
	if c, ok := join(class{zint.Of(1), zint.Of(4)}, class{zint.Of(2), zint.Of(6)}); ok {
		t.Fatal(c)
	}
}
