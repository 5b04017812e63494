package modhnf

import (
	"math/rand"
	"testing"

	"quincunx/api"
	"quincunx/nat"
	"quincunx/rows"
	"quincunx/zint"
	"quincunx/zmat"
)

// drawn is a matrix of numbers of at most so many words, some of them 0.
func drawn(source *rand.Rand, r, c, words int) zmat.Mat {
	out := zmat.Mat{R: r, C: c}
	for range r * c {
		a := make(nat.Nat, source.Intn(words+1))
		for i := range a {
			a[i] = source.Uint64() >> source.Intn(64)
		}
		out.A = append(out.A, zint.Int{Neg: source.Intn(2) == 0, A: a})
	}
	return out
}

// holds fails unless each row of the triangle begins at its own column with a number
// from 1 to the multiple, and has numbers from 0 on, below the multiple, behind it.
func holds(t *testing.T, made triangle, multiple zint.Int) {
	t.Helper()
	for k, row := range made.rows {
		for at, x := range row {
			isAhead, isFirst := at < k, at == k
			switch {
			case isAhead && zint.Sign(x) != 0,
				isFirst && (zint.Sign(x) <= 0 || zint.Cmp(x, multiple) > 0),
				at > k && (zint.Sign(x) < 0 || zint.Cmp(x, multiple) >= 0):
				t.Fatal(k, at, x, multiple)
			}
		}
	}
}

// P15.3: numbers are below the multiple after each row, however great what was put in
// is, and the diagonal is the multiple at first.
func TestNumbersStayBelow(t *testing.T) {
	source := rand.New(rand.NewSource(170))
	for range 300 {
		c := source.Intn(8)
		a := drawn(source, c+source.Intn(3), c, 2)
		multiple, e := Multiple(a)
		if e != api.OK {
			continue
		}
		made := diagonal(multiple, c)
		for k, row := range made.rows {
			if !zint.Same(row[k], multiple) {
				t.Fatal("the diagonal", k, row)
			}
		}
		holds(t, made, multiple)
		for _, row := range rows.Of(a) {
			made.put(row)
			holds(t, made, multiple)
		}
		for _, row := range rows.Of(drawn(source, 5, c, 40)) {
			made.put(row)
			holds(t, made, multiple)
		}
		made.settle()
		holds(t, made, multiple)
	}
}

// P15.3: so are those of a row that something is taken out of, or that is joined.
func TestRowsStayBelow(t *testing.T) {
	source := rand.New(rand.NewSource(186))
	for range 300 {
		c := 1 + source.Intn(6)
		made, e := triangleOf(drawn(source, c+1, c, 2))
		if e != api.OK {
			continue
		}
		for _, row := range rows.Of(drawn(source, 4, c, 8)) {
			for k := range row {
				row[k] = made.rest(row[k])
			}
			for k, own := range made.rows {
				made.takeOut(row, k)
				isBelow(t, row, made.multiple)
				made.join(own, row, k)
				isBelow(t, row, made.multiple)
			}
		}
	}
}

// isBelow fails unless all numbers are from 0 on, and below the multiple.
func isBelow(t *testing.T, row []zint.Int, multiple zint.Int) {
	t.Helper()
	for at, x := range row {
		if zint.Sign(x) < 0 || zint.Cmp(x, multiple) >= 0 {
			t.Fatal(at, x, multiple)
		}
	}
}

// What has been put in leaves nothing behind, and changes nothing when it is put in
// again.
func TestPutAgain(t *testing.T) {
	source := rand.New(rand.NewSource(171))
	for range 200 {
		c := 1 + source.Intn(6)
		a := drawn(source, c+1, c, 2)
		made, e := triangleOf(a)
		if e != api.OK {
			continue
		}
		made.settle()
		before := rows.Join(made.rows, 0, c)
		for _, row := range rows.Of(a) {
			made.put(row)
			if !zmat.Zero(rows.Join([][]zint.Int{row}, 0, c)) {
				t.Fatal("something is left", a, row)
			}
		}
		if after := rows.Join(made.rows, 0, c); !zmat.Same(before, after) {
			t.Fatal(a, before, after)
		}
	}
}
