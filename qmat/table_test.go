package qmat_test

import (
	"math/big"
	"slices"

	"quincunx/qmat"
	"quincunx/zmat"
)

// table is a matrix for a reckoning of its own.
type table struct {
	r, c int
	at   []*big.Rat
}

// tableBy asks for each place's number.
func tableBy(r, c int, number func(i, k int) *big.Rat) table {
	out := table{r: r, c: c}
	for i := range r {
		for k := range c {
			out.at = append(out.at, number(i, k))
		}
	}
	return out
}

// get is the number of that place.
func (a table) get(i, k int) *big.Rat {
	return a.at[i*a.c+k]
}

func (a table) same(b table) bool {
	return a.r == b.r && a.c == b.c && slices.EqualFunc(a.at, b.at, func(x, y *big.Rat) bool { return x.Cmp(y) == 0 })
}

// tableOf is the table of a formed matrix.
func tableOf(a qmat.Mat) table {
	return tableBy(a.R, a.C, func(i, k int) *big.Rat { return numberOf(a.A[i*a.C+k]) })
}

// matOf is the normal matrix of a table.
func matOf(a table) qmat.Mat {
	out := qmat.Mat{R: a.r, C: a.c}
	for _, x := range a.at {
		out.A = append(out.A, ratOf(x))
	}
	return out
}

// wholeOf is the normal matrix of whole numbers of a table that has no other ones.
func wholeOf(a table) zmat.Mat {
	out := zmat.Mat{R: a.r, C: a.c}
	for _, x := range a.at {
		out.A = append(out.A, intOf(x.Num()))
	}
	return out
}

// tableOfWhole is the table of a formed matrix of whole numbers.
func tableOfWhole(a zmat.Mat) table {
	return tableBy(a.R, a.C, func(i, k int) *big.Rat { return new(big.Rat).SetInt(valueOf(a.A[i*a.C+k])) })
}

// noughtsOf is the table of noughts.
func noughtsOf(r, c int) table {
	return tableBy(r, c, func(_, _ int) *big.Rat { return new(big.Rat) })
}

// unitsOf is the table of the identity.
func unitsOf(n int) table {
	return tableBy(n, n, func(i, k int) *big.Rat {
		if i == k {
			return big.NewRat(1, 1)
		}
		return new(big.Rat)
	})
}

// sumOf is a + b, place by place.
func sumOf(a, b table) table {
	return tableBy(a.r, a.c, func(i, k int) *big.Rat { return new(big.Rat).Add(a.get(i, k), b.get(i, k)) })
}

// timesOf is x a.
func timesOf(a table, x *big.Rat) table {
	return tableBy(a.r, a.c, func(i, k int) *big.Rat { return new(big.Rat).Mul(x, a.get(i, k)) })
}

// productOf sums up the products of rows and columns.
func productOf(a, b table) table {
	return tableBy(a.r, b.c, func(i, k int) *big.Rat {
		sum := new(big.Rat)
		for at := range a.c {
			sum.Add(sum, new(big.Rat).Mul(a.get(i, at), b.get(at, k)))
		}
		return sum
	})
}

// turnedOf is a's rows made columns.
func turnedOf(a table) table {
	return tableBy(a.c, a.r, func(i, k int) *big.Rat { return a.get(k, i) })
}

// besideOf is a's columns, then b's.
func besideOf(a, b table) table {
	return tableBy(a.r, a.c+b.c, func(i, k int) *big.Rat {
		if k < a.c {
			return a.get(i, k)
		}
		return b.get(i, k-a.c)
	})
}

// leastMultiple is the least number above 0 that makes each number whole.
func (a table) leastMultiple() *big.Int {
	least := big.NewInt(1)
	for _, x := range a.at {
		common := new(big.Int).GCD(nil, nil, least, x.Denom())
		least = new(big.Int).Mul(least, new(big.Int).Quo(x.Denom(), common))
	}
	return least
}

// reduced is the reduced form, one column after the other, by fractions; and the pivots.
func (a table) reduced() (table, []int) {
	rows := make([][]*big.Rat, a.r)
	for i := range rows {
		for k := range a.c {
			rows[i] = append(rows[i], new(big.Rat).Set(a.get(i, k)))
		}
	}
	var pivots []int
	for k := range a.c {
		n := len(pivots)
		at := slices.IndexFunc(rows[n:], func(row []*big.Rat) bool { return row[k].Sign() != 0 })
		if at < 0 {
			continue
		}
		rows[n], rows[n+at] = rows[n+at], rows[n]
		addTimes(rows[n], rows[n], new(big.Rat).Sub(new(big.Rat).Inv(rows[n][k]), big.NewRat(1, 1)))
		for i := range rows {
			if i != n {
				addTimes(rows[i], rows[n], new(big.Rat).Neg(rows[i][k]))
			}
		}
		pivots = append(pivots, k)
	}
	return table{r: a.r, c: a.c, at: slices.Concat(rows...)}, pivots
}

// addTimes puts x times the other row to the row.
func addTimes(row, other []*big.Rat, x *big.Rat) {
	if x.Sign() == 0 {
		return
	}
	for at := range row {
		row[at] = new(big.Rat).Add(row[at], new(big.Rat).Mul(x, other[at]))
	}
}

// inverse is what stands beside a's reduced form, if that is the identity.
func (a table) inverse() (table, bool) {
	reduced, pivots := besideOf(a, unitsOf(a.r)).reduced()
	isThere := len(pivots) == a.r && (a.r == 0 || pivots[a.r-1] < a.c)
	return tableBy(a.r, a.r, func(i, k int) *big.Rat { return reduced.get(i, a.c+k) }), isThere
}

// solved is the x with a x = b as the chapter tells it, and whether there is one: no
// column of b is a pivot, beside a.
func (a table) solved(b table) (table, bool) {
	reduced, pivots := besideOf(a, b).reduced()
	isThere := len(pivots) == 0 || pivots[len(pivots)-1] < a.c
	return tableBy(a.c, b.c, func(i, k int) *big.Rat {
		if at := slices.Index(pivots, i); at >= 0 {
			return reduced.get(at, a.c+k)
		}
		return new(big.Rat)
	}), isThere
}

// kernel is what becomes 0 by a, as the chapter tells it.
func (a table) kernel() table {
	reduced, pivots := a.reduced()
	var others []int
	for k := range a.c {
		if !slices.Contains(pivots, k) {
			others = append(others, k)
		}
	}
	return tableBy(a.c, len(others), func(i, k int) *big.Rat {
		switch at := slices.Index(pivots, i); {
		case at >= 0:
			return new(big.Rat).Neg(reduced.get(at, others[k]))
		case i == others[k]:
			return big.NewRat(1, 1)
		}
		return new(big.Rat)
	})
}

// residues is the table's numbers by the prime p, as whole ones; no D may be 0 there.
func (a table) residues(p *big.Int) []*big.Int {
	var list []*big.Int
	for _, x := range a.at {
		y := new(big.Int).ModInverse(x.Denom(), p)
		list = append(list, y.Mod(y.Mul(y, x.Num()), p))
	}
	return list
}

// isProductBy tells whether the product of a and b is c, by a prime next to 2^89, by
// which nothing of the tests' is 0 that isn't 0.
func isProductBy(a, b, c table) bool {
	p := new(big.Int).Lsh(big.NewInt(1), 89)
	p.Sub(p, big.NewInt(1))
	left, right, want := a.residues(p), b.residues(p), c.residues(p)
	for i := range a.r {
		for k := range b.c {
			sum := new(big.Int)
			for at := range a.c {
				sum.Add(sum, new(big.Int).Mul(left[i*a.c+at], right[at*b.c+k]))
			}
			if sum.Mod(sum, p).Cmp(want[i*b.c+k]) != 0 {
				return false
			}
		}
	}
	return true
}
