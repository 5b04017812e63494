package grid

import (
	"math"
	"slices"
	"testing"
)

// ends holds what is a side, and what is none, next to both ends and far from them.
func ends() []int {
	return []int{math.MinInt, -1 << 32, -65, -64, -2, -1, 0, 1, 2, 3, 8, 63, 64, 65, 66, 128, 1 << 31, 1 << 32, 1 << 62, math.MaxInt}
}

// Sides are from 0 to 64.
func TestIsSide(t *testing.T) {
	for _, n := range ends() {
		if IsSide(n) != slices.Contains([]int{0, 1, 2, 3, 8, 63, 64}, n) {
			t.Error(n, IsSide(n))
		}
	}
}

// There are just as many places as the sides' product, also where that runs over to
// what there is.
func TestFormed(t *testing.T) {
	for _, r := range ends() {
		for _, c := range ends() {
			for _, places := range []int{0, 1, 2, 3, 4, 6, 8, 9, 64, 65, 4032, 4095, 4096, 4097} {
				want := min(r, c) >= 0 && max(r, c) <= 64 && places == r*c
				if Formed(r, c, places) != want {
					t.Error(r, c, places)
				}
			}
		}
	}
}

// A place is there, if its row and its column are.
func TestHas(t *testing.T) {
	for _, side := range [][2]int{{0, 0}, {0, 3}, {3, 0}, {1, 1}, {2, 3}, {3, 2}, {64, 64}} {
		for _, i := range ends() {
			for _, k := range ends() {
				isRow, isColumn := i >= 0 && i < side[0], k >= 0 && k < side[1]
				if Has(side[0], side[1], i, k) != (isRow && isColumn) {
					t.Error(side, i, k)
				}
			}
		}
	}
}

// Numbers are asked for row by row, each once.
func TestMake(t *testing.T) {
	for _, c := range []struct {
		r, c int
		want []int
	}{
		{0, 0, nil}, {0, 3, nil}, {3, 0, nil}, {1, 1, []int{0}}, {1, 3, []int{0, 1, 2}}, {3, 1, []int{0, 10, 20}}, {2, 3, []int{0, 1, 2, 10, 11, 12}}, {3, 2, []int{0, 1, 10, 11, 20, 21}},
	} {
		var asked []int
		got := Make(c.r, c.c, func(i, k int) int {
			asked = append(asked, 10*i+k)
			return 10*i + k
		})
		if !slices.Equal(got, c.want) || !slices.Equal(asked, c.want) {
			t.Error(c, got, asked)
		}
	}
	if got := Make(2, 1, func(i, _ int) string { return []string{"a", "b"}[i] }); !slices.Equal(got, []string{"a", "b"}) {
		t.Error(got)
	}
}
