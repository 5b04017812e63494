package rows

import (
	"math/rand"
	"slices"
	"testing"

	"quincunx/nat"
	"quincunx/zint"
	"quincunx/zmat"
)

// drawn is a matrix of words, of which some have noughts behind them.
func drawn(source *rand.Rand, r, c int) zmat.Mat {
	out := zmat.Mat{R: r, C: c}
	for range r * c {
		a := nat.Nat{source.Uint64() >> source.Intn(65), 0}
		out.A = append(out.A, zint.Int{Neg: source.Intn(2) == 0, A: a[:1+source.Intn(2)]})
	}
	return out
}

func isNormal(x zint.Int) bool {
	if len(x.A) == 0 {
		return !x.Neg
	}
	return x.A[len(x.A)-1] != 0
}

func sides() [][2]int {
	return [][2]int{{0, 0}, {0, 3}, {3, 0}, {1, 1}, {1, 4}, {4, 1}, {2, 3}, {3, 2}, {64, 2}, {2, 64}, {64, 0}, {0, 64}}
}

// Rows are a's numbers, row by row, normal; what is put behind one runs into no other.
func TestOf(t *testing.T) {
	source := rand.New(rand.NewSource(180))
	for _, side := range sides() {
		a := drawn(source, side[0], side[1])
		list := Of(a)
		if len(list) != a.R {
			t.Fatal(side, len(list))
		}
		for i := range list {
			list[i] = append(list[i], zint.Of(77))
		}
		for i, row := range list {
			if len(row) != a.C+1 || !slices.EqualFunc(row[:a.C], a.A[i*a.C:(i+1)*a.C], zint.Same) || !zint.Same(row[a.C], zint.Of(77)) {
				t.Fatal(a, i, row)
			}
			if slices.ContainsFunc(row, func(x zint.Int) bool { return !isNormal(x) }) {
				t.Fatal("not normal", row)
			}
		}
	}
}

// The identity stands behind a's columns, where there are none too.
func TestBesideIdentity(t *testing.T) {
	source := rand.New(rand.NewSource(181))
	for _, side := range sides() {
		a := drawn(source, side[0], side[1])
		list := BesideIdentity(a)
		if len(list) != a.R {
			t.Fatal(side, len(list))
		}
		for i, row := range list {
			units := make([]zint.Int, a.R)
			units[i] = zint.Of(1)
			if !slices.EqualFunc(row, slices.Concat(a.A[i*a.C:(i+1)*a.C], units), zint.Same) {
				t.Fatal(a, i, row)
			}
		}
	}
}

// Rows come of memory of their own: what is written there stays out of a.
func TestOwnMemory(t *testing.T) {
	source := rand.New(rand.NewSource(182))
	for _, side := range sides() {
		a := drawn(source, side[0], side[1])
		kept, _ := zmat.Norm(a)
		for _, list := range [][][]zint.Int{Of(a), BesideIdentity(a)} {
			for _, row := range list {
				for k, x := range row {
					clear(x.A)
					row[k] = zint.Of(5)
				}
			}
		}
		if !zmat.Same(a, kept) {
			t.Fatal(a, kept)
		}
	}
}

// Joined again they are a; of each row the numbers of some columns alone.
func TestJoin(t *testing.T) {
	source := rand.New(rand.NewSource(183))
	for _, side := range sides() {
		a := drawn(source, side[0], side[1])
		if !zmat.Same(Join(Of(a), 0, a.C), a) {
			t.Fatal(a)
		}
		one, _ := zmat.Identity(a.R)
		both := BesideIdentity(a)
		if !zmat.Same(Join(both, 0, a.C), a) || !zmat.Same(Join(both, a.C, a.C+a.R), one) {
			t.Fatal(a, both)
		}
		none := Join(both, a.C, a.C)
		if none.R != a.R || none.C != 0 || len(none.A) != 0 {
			t.Fatal(none)
		}
	}
	if a := Join(nil, 2, 5); a.R != 0 || a.C != 3 || len(a.A) != 0 {
		t.Fatal(a)
	}
}
