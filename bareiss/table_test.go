package bareiss_test

import (
	"math/big"
	"slices"

	"quincunx/zmat"
)

// table is a matrix for a reckoning of its own.
type table struct {
	r, c int
	at   []*big.Int
}

// tableBy asks for each place's number.
func tableBy(r, c int, number func(i, k int) *big.Int) table {
	out := table{r: r, c: c}
	for i := range r {
		for k := range c {
			out.at = append(out.at, number(i, k))
		}
	}
	return out
}

// get is the number of that place.
func (a table) get(i, k int) *big.Int {
	return a.at[i*a.c+k]
}

func (a table) same(b table) bool {
	return a.r == b.r && a.c == b.c && slices.EqualFunc(a.at, b.at, func(x, y *big.Int) bool { return x.Cmp(y) == 0 })
}

// tableOf is the table of a formed matrix.
func tableOf(a zmat.Mat) table {
	return tableBy(a.R, a.C, func(i, k int) *big.Int { return valueOf(a.A[i*a.C+k]) })
}

// matOf is the normal matrix of a table.
func matOf(a table) zmat.Mat {
	out := zmat.Mat{R: a.r, C: a.c}
	for _, x := range a.at {
		out.A = append(out.A, intOf(x))
	}
	return out
}

// productOf sums up the products of rows and columns.
func productOf(a, b table) table {
	return tableBy(a.r, b.c, func(i, k int) *big.Int {
		sum := new(big.Int)
		for at := range a.c {
			sum.Add(sum, new(big.Int).Mul(a.get(i, at), b.get(at, k)))
		}
		return sum
	})
}

// part is the matrix of these rows and columns.
func (a table) part(rows, columns []int) table {
	return tableBy(len(rows), len(columns), func(i, k int) *big.Int { return a.get(rows[i], columns[k]) })
}

// upTo holds the numbers from 0 on, below n, but those left out.
func upTo(n int, but ...int) []int {
	var list []int
	for i := range n {
		if !slices.Contains(but, i) {
			list = append(list, i)
		}
	}
	return list
}

// without is a without the row i and the column k.
func (a table) without(i, k int) table {
	return a.part(upTo(a.r, i), upTo(a.c, k))
}

// det is the determinant as the chapter tells it: by the first row's numbers. What of
// the rows behind it hangs on the columns that are left alone is kept for each set of
// them, as more than one way leads there.
func (a table) det() *big.Int {
	return a.detOf(0, 0, make([]*big.Int, 1<<a.c))
}

// detOf is the determinant of the rows from i on, and of the columns that aren't taken.
func (a table) detOf(i, taken int, kept []*big.Int) *big.Int {
	if i == a.r {
		return big.NewInt(1)
	}
	if kept[taken] == nil {
		sum, isBelow := new(big.Int), false
		for k := range a.c {
			if taken>>k&1 != 0 {
				continue
			}
			if x := a.get(i, k); x.Sign() != 0 {
				x = new(big.Int).Mul(x, a.detOf(i+1, taken|1<<k, kept))
				if isBelow {
					x.Neg(x)
				}
				sum.Add(sum, x)
			}
			isBelow = !isBelow
		}
		kept[taken] = sum
	}
	return kept[taken]
}

// adjugate is the adjugate as the chapter tells it.
func (a table) adjugate() table {
	return tableBy(a.r, a.c, func(i, k int) *big.Int {
		x := a.without(k, i).det()
		if (i+k)%2 != 0 {
			x = new(big.Int).Neg(x)
		}
		return x
	})
}

// subsets holds the lists, rising, of so many numbers from 0 on, below n.
func subsets(n, size int) [][]int {
	if size == 0 {
		return [][]int{nil}
	}
	var list [][]int
	for last := size - 1; last < n; last++ {
		for _, ahead := range subsets(last, size-1) {
			list = append(list, append(slices.Clone(ahead), last))
		}
	}
	return list
}

// rankByMinors is the rank as the chapter tells it.
func (a table) rankByMinors() int {
	for size := min(a.r, a.c); size > 0; size-- {
		for _, rows := range subsets(a.r, size) {
			for _, columns := range subsets(a.c, size) {
				if a.part(rows, columns).det().Sign() != 0 {
					return size
				}
			}
		}
	}
	return 0
}

// hasMinor tells whether x is, up to its sign, the minor of these columns and some rows.
func (a table) hasMinor(x *big.Int, columns []int) bool {
	return slices.ContainsFunc(subsets(a.r, len(columns)), func(rows []int) bool {
		return a.part(rows, columns).det().CmpAbs(x) == 0
	})
}

// reduced is the rows, over fractions, with 1 at each pivot and noughts above and below
// it, without those that are noughts; and the pivots. It hangs on the rows' multiples
// alone.
func (a table) reduced() ([][]*big.Rat, []int) {
	rows := make([][]*big.Rat, a.r)
	for i := range rows {
		for k := range a.c {
			rows[i] = append(rows[i], new(big.Rat).SetInt(a.get(i, k)))
		}
	}
	var pivots []int
	for k := range a.c {
		n := len(pivots)
		at := slices.IndexFunc(rows[n:], func(row []*big.Rat) bool { return row[k].Sign() != 0 })
		if at < 0 {
			continue
		}
		rows[n], rows[n+at] = rows[n+at], rows[n]
		addTimes(rows[n], rows[n], k, new(big.Rat).Sub(new(big.Rat).Inv(rows[n][k]), big.NewRat(1, 1)))
		for i := range rows {
			if i != n {
				addTimes(rows[i], rows[n], k, new(big.Rat).Neg(rows[i][k]))
			}
		}
		pivots = append(pivots, k)
	}
	return rows[:len(pivots)], pivots
}

// addTimes puts x times the other row to the row, from the column k on.
func addTimes(row, other []*big.Rat, k int, x *big.Rat) {
	if x.Sign() == 0 {
		return
	}
	for at := k; at < len(row); at++ {
		row[at] = new(big.Rat).Add(row[at], new(big.Rat).Mul(x, other[at]))
	}
}

// byPrime is the matrix's rows of rests by p, with noughts below each pivot, the pivots,
// and the determinant's rest, if it has one.
func (a table) byPrime(p *big.Int) ([]int, *big.Int) {
	rows := make([][]*big.Int, a.r)
	for i := range rows {
		for k := range a.c {
			rows[i] = append(rows[i], new(big.Int).Mod(a.get(i, k), p))
		}
	}
	var pivots []int
	det := big.NewInt(1)
	for k := range a.c {
		n := len(pivots)
		at := slices.IndexFunc(rows[n:], func(row []*big.Int) bool { return row[k].Sign() != 0 })
		if at < 0 {
			det.SetInt64(0)
			continue
		}
		if at > 0 {
			rows[n], rows[n+at] = rows[n+at], rows[n]
			det.Neg(det)
		}
		det.Mod(det.Mul(det, rows[n][k]), p)
		inverse := new(big.Int).ModInverse(rows[n][k], p)
		for _, row := range rows[n+1:] {
			times := new(big.Int).Mul(row[k], inverse)
			times.Mod(times, p)
			for c := k; c < a.c && times.Sign() != 0; c++ {
				x := new(big.Int).Mul(times, rows[n][c])
				row[c] = x.Mod(x.Sub(row[c], x), p)
			}
		}
		pivots = append(pivots, k)
	}
	return pivots, det
}

// primes holds some next to 2^61 and 2^89, by which nothing of the tests' is 0 that
// isn't 0.
func primes() []*big.Int {
	var list []*big.Int
	for _, n := range []uint{61, 89} {
		p := new(big.Int).Lsh(big.NewInt(1), n)
		list = append(list, p.Sub(p, big.NewInt(1)))
	}
	return list
}
