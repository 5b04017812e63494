package echelon

import (
	"math/rand"
	"slices"
	"testing"

	"quincunx/zint"
)

// rowsOf is rows of these numbers, so many each.
func rowsOf(columns int, l ...int64) [][]zint.Int {
	var rows [][]zint.Int
	for row := range slices.Chunk(l, columns) {
		var numbers []zint.Int
		for _, x := range row {
			numbers = append(numbers, zint.Of(x))
		}
		rows = append(rows, numbers)
	}
	return rows
}

func sameRows(a, b [][]zint.Int) bool {
	return slices.EqualFunc(a, b, func(x, y []zint.Int) bool { return slices.EqualFunc(x, y, zint.Same) })
}

// Ahead of all pivots stands 1.
func TestOf(t *testing.T) {
	rows := rowsOf(2, 1, 2, 3, 4)
	r := Of(rows)
	if !sameRows(r.Rows, rowsOf(2, 1, 2, 3, 4)) || len(r.Pivots) != 0 || !zint.Same(r.Ahead, zint.Of(1)) || r.IsOdd {
		t.Fatal(r)
	}
	r = Of(nil)
	r.Reduce(5)
	if len(r.Rows) != 0 || len(r.Pivots) != 0 || !zint.Same(r.Ahead, zint.Of(1)) {
		t.Fatal(r)
	}
}

// Rows that are easily reckoned, with columns beside those that may have pivots.
func TestReduce(t *testing.T) {
	for _, c := range []struct {
		rows, want [][]zint.Int
		columns    int
		pivots     []int
		ahead      int64
		isOdd      bool
	}{
		{rowsOf(2, 1, 2, 3, 4), rowsOf(2, 1, 2, 0, -2), 2, []int{0, 1}, -2, false}, {rowsOf(2, 1, 2, 3, 4), rowsOf(2, 1, 2, 0, -2), 1, []int{0}, 1, false}, {rowsOf(2, 1, 2, 3, 4), rowsOf(2, 1, 2, 3, 4), 0, nil, 1, false},
		{rowsOf(4, 0, 2, 1, 0, 3, 4, 0, 1), rowsOf(4, 3, 4, 0, 1, 0, 6, 3, 0), 2, []int{0, 1}, 6, true}, {rowsOf(3, 0, 0, 5, 0, 0, 7), rowsOf(3, 0, 0, 5, 0, 0, 7), 2, nil, 1, false}, {rowsOf(3, 0, 0, 5, 0, 0, 7), rowsOf(3, 0, 0, 5, 0, 0, 0), 3, []int{2}, 5, false},
		{rowsOf(3, 2, 0, 1, 1, 3, 2, 1, 1, 4), rowsOf(3, 2, 0, 1, 0, 6, 3, 0, 0, 18), 3, []int{0, 1, 2}, 18, false}, {rowsOf(3, 2, 4, 9, 1, 2, 5), rowsOf(3, 2, 4, 9, 0, 0, 1), 2, []int{0}, 2, false}, {rowsOf(3, 0, 1, 0, 0, 0, 1, 1, 0, 0), rowsOf(3, 1, 0, 0, 0, 1, 0, 0, 0, 1), 3, []int{0, 1, 2}, 1, false},
	} {
		r := Of(c.rows)
		r.Reduce(c.columns)
		if !sameRows(r.Rows, c.want) || !slices.Equal(r.Pivots, c.pivots) || !zint.Same(r.Ahead, zint.Of(c.ahead)) || r.IsOdd != c.isOdd {
			t.Error(c, r)
		}
	}
}

// unit is the identity's number at that place.
func unit(i, k int) zint.Int {
	if i == k {
		return zint.Of(1)
	}
	return zint.Int{}
}

// Rows longer than a matrix': what stands beside the identity's numbers comes with the
// rows' turns, so that it times the rows of before makes those of behind.
func TestReduceOfLongRows(t *testing.T) {
	source := rand.New(rand.NewSource(160))
	for range 60 {
		n, c := 1+source.Intn(6), 1+source.Intn(90)
		first := make([][]zint.Int, n)
		rows := make([][]zint.Int, n)
		for i := range first {
			for range c {
				first[i] = append(first[i], zint.Of(int64(source.Intn(9)-4)))
			}
			rows[i] = slices.Clone(first[i])
			for k := range n {
				rows[i] = append(rows[i], unit(i, k))
			}
		}
		r := Of(rows)
		r.Reduce(c)
		for i, row := range r.Rows {
			for k := range c {
				sum := zint.Int{}
				for at := range n {
					sum = zint.Add(sum, zint.Mul(row[c+at], first[at][k]))
				}
				if !zint.Same(sum, row[k]) {
					t.Fatal(first, i, k)
				}
				if isAhead := i >= len(r.Pivots) || k < r.Pivots[i]; isAhead && zint.Sign(row[k]) != 0 {
					t.Fatal("no nought", first, i, k)
				}
			}
		}
	}
}

// The numbers that are handed in stay.
func TestNumbersStay(t *testing.T) {
	rows := rowsOf(4, 0, 2, 1, 5, 3, 4, 0, 1, 7, 7, 7, 7)
	kept := slices.Clone(rows)
	r := Of(rows)
	r.Reduce(4)
	if !sameRows(kept, rowsOf(4, 0, 2, 1, 5, 3, 4, 0, 1, 7, 7, 7, 7)) {
		t.Fatal(kept)
	}
}
