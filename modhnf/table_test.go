package modhnf_test

import (
	"fmt"
	"math/big"
	"math/rand"
	"slices"
	"strings"

	"quincunx/zmat"
)

// table is a matrix for a reckoning of its own.
type table struct {
	r, c int
	at   []*big.Int
}

// tableBy asks for each place's number.
func tableBy(r, c int, number func(i, k int) *big.Int) table {
	out := table{r: r, c: c}
	for i := range r {
		for k := range c {
			out.at = append(out.at, number(i, k))
		}
	}
	return out
}

// get is the number of that place.
func (a table) get(i, k int) *big.Int {
	return a.at[i*a.c+k]
}

// row is the numbers of the row i.
func (a table) row(i int) []*big.Int {
	return a.at[i*a.c : (i+1)*a.c]
}

// rows is a's rows from from on, up to ahead of to.
func (a table) rows(from, to int) table {
	return table{r: to - from, c: a.c, at: a.at[from*a.c : to*a.c]}
}

func sameNumbers(a, b []*big.Int) bool {
	return slices.EqualFunc(a, b, func(x, y *big.Int) bool { return x.Cmp(y) == 0 })
}

func (a table) same(b table) bool {
	return a.r == b.r && a.c == b.c && sameNumbers(a.at, b.at)
}

// tableOf is the table of a formed matrix.
func tableOf(a zmat.Mat) table {
	return tableBy(a.R, a.C, func(i, k int) *big.Int { return valueOf(a.A[i*a.C+k]) })
}

// matOf is the normal matrix of a table.
func matOf(a table) zmat.Mat {
	out := zmat.Mat{R: a.r, C: a.c}
	for _, x := range a.at {
		out.A = append(out.A, intOf(x))
	}
	return out
}

// String is the numbers as digits, for tests that fail.
func (a table) String() string {
	var text strings.Builder
	for i := range a.r {
		text.WriteString(fmt.Sprintln(a.row(i)))
	}
	return text.String()
}

// stackOf is a's rows, then b's.
func stackOf(a, b table) table {
	return table{r: a.r + b.r, c: a.c, at: slices.Concat(a.at, b.at)}
}

// productOf sums up the products of rows and columns.
func productOf(a, b table) table {
	return tableBy(a.r, b.c, func(i, k int) *big.Int {
		sum := new(big.Int)
		for at := range a.c {
			sum.Add(sum, new(big.Int).Mul(a.get(i, at), b.get(at, k)))
		}
		return sum
	})
}

// det is the determinant: the sum of the first row's numbers times what is left without
// their columns. What hangs on the columns that are left alone is kept for each set of
// them.
func (a table) det() *big.Int {
	return a.detOf(0, 0, make([]*big.Int, 1<<a.c))
}

// detOf is the determinant of the rows from i on, and of the columns that aren't taken.
func (a table) detOf(i, taken int, kept []*big.Int) *big.Int {
	if i == a.r {
		return big.NewInt(1)
	}
	if kept[taken] == nil {
		sum, isBelow := new(big.Int), false
		for k := range a.c {
			if taken>>k&1 != 0 {
				continue
			}
			if x := a.get(i, k); x.Sign() != 0 {
				x = new(big.Int).Mul(x, a.detOf(i+1, taken|1<<k, kept))
				if isBelow {
					x.Neg(x)
				}
				sum.Add(sum, x)
			}
			isBelow = !isBelow
		}
		kept[taken] = sum
	}
	return kept[taken]
}

// detByPrime is the determinant's rest by p.
func (a table) detByPrime(p *big.Int) *big.Int {
	rows := make([][]*big.Int, a.r)
	for i := range rows {
		for _, x := range a.row(i) {
			rows[i] = append(rows[i], new(big.Int).Mod(x, p))
		}
	}
	det := big.NewInt(1)
	for k := range a.c {
		at := slices.IndexFunc(rows[k:], func(row []*big.Int) bool { return row[k].Sign() != 0 })
		if at < 0 {
			return new(big.Int)
		}
		if at > 0 {
			rows[k], rows[k+at] = rows[k+at], rows[k]
			det.Neg(det)
		}
		det.Mod(det.Mul(det, rows[k][k]), p)
		inverse := new(big.Int).ModInverse(rows[k][k], p)
		for _, row := range rows[k+1:] {
			times := new(big.Int).Mul(row[k], inverse)
			times.Mod(times, p)
			for c := k; c < a.c && times.Sign() != 0; c++ {
				x := new(big.Int).Mul(times, rows[k][c])
				row[c] = x.Mod(x.Sub(row[c], x), p)
			}
		}
	}
	return det
}

// primes holds some next to 2^61 and 2^89.
func primes() []*big.Int {
	var list []*big.Int
	for _, n := range []uint{61, 89} {
		p := new(big.Int).Lsh(big.NewInt(1), n)
		list = append(list, p.Sub(p, big.NewInt(1)))
	}
	return list
}

// leadOf is the place of the first number that isn't 0; -1, if there is none.
func leadOf(row []*big.Int) int {
	return slices.IndexFunc(row, func(x *big.Int) bool { return x.Sign() != 0 })
}

// leads is the places where the rows begin that aren't noughts.
func (a table) leads() []int {
	var list []int
	for i := range a.r {
		if k := leadOf(a.row(i)); k >= 0 {
			list = append(list, k)
		}
	}
	return list
}

// isHermite holds a, word by word, against what the chapter calls Hermite's form.
func (a table) isHermite() bool {
	pivots := a.leads()
	for i, k := range pivots {
		pivot := a.get(i, k)
		if leadOf(a.row(i)) != k || pivot.Sign() <= 0 || i > 0 && pivots[i-1] >= k {
			return false
		}
		for above := range i {
			if x := a.get(above, k); x.Sign() < 0 || x.Cmp(pivot) >= 0 {
				return false
			}
		}
	}
	return true
}

// addTimes puts x times the row k to the row i.
func (a table) addTimes(i, k int, x *big.Int) {
	for at := range a.c {
		a.at[i*a.c+at] = new(big.Int).Add(a.get(i, at), new(big.Int).Mul(x, a.get(k, at)))
	}
}

// swap lets both rows change places.
func (a table) swap(i, k int) {
	for at := range a.c {
		a.at[i*a.c+at], a.at[k*a.c+at] = a.at[k*a.c+at], a.at[i*a.c+at]
	}
}

// negate puts the row's negative in its place.
func (a table) negate(i int) {
	for at := range a.c {
		a.at[i*a.c+at] = new(big.Int).Neg(a.get(i, at))
	}
}

// least is the row, from from on, whose number in the column k is next to 0, but isn't
// 0; -1, if there is none.
func (a table) least(from, k int) int {
	at := -1
	for i := from; i < a.r; i++ {
		if a.get(i, k).Sign() != 0 && (at < 0 || a.get(i, k).CmpAbs(a.get(at, k)) < 0) {
			at = i
		}
	}
	return at
}

// hermite is Hermite's form, by Euclid's way in each column: the least number is brought
// up, and taken out of the others, till they are 0.
func (a table) hermite() table {
	out, n := table{r: a.r, c: a.c, at: slices.Clone(a.at)}, 0
	for k := range a.c {
		if out.clearBelow(n, k) {
			n++
		}
	}
	return out
}

// clearBelow makes the row n's number in the column k the greatest common divisor of the
// rows' from there on; false, if they are all 0.
func (a table) clearBelow(n, k int) bool {
	if a.least(n, k) < 0 {
		return false
	}
	for isLeft := true; isLeft; {
		isLeft = false
		a.swap(n, a.least(n, k))
		if a.get(n, k).Sign() < 0 {
			a.negate(n)
		}
		for i := range a.r {
			if i != n {
				times := new(big.Int)
				times.DivMod(a.get(i, k), a.get(n, k), new(big.Int))
				a.addTimes(i, n, times.Neg(times))
				isLeft = isLeft || i > n && a.get(i, k).Sign() != 0
			}
		}
	}
	return true
}

// coordinates is how often each row stands in v, where a is in Hermite's form; nil, if v
// is no such sum.
func (a table) coordinates(v []*big.Int) []*big.Int {
	both := stackOf(a, table{r: 1, c: a.c, at: slices.Clone(v)})
	out := make([]*big.Int, 0, a.r)
	for i := range a.r {
		times, k := new(big.Int), leadOf(a.row(i))
		if k >= 0 {
			times.Div(both.get(a.r, k), a.get(i, k))
			both.addTimes(a.r, i, new(big.Int).Neg(times))
		}
		out = append(out, times)
	}
	if leadOf(both.row(a.r)) >= 0 {
		return nil
	}
	return out
}

// has tells whether each row of b is a sum of multiples of a's, where a is in Hermite's
// form.
func (a table) has(b table) bool {
	for i := range b.r {
		if a.coordinates(b.row(i)) == nil {
			return false
		}
	}
	return true
}

// lattice is the rows of the form that aren't noughts.
func (a table) lattice() table {
	form := a.hermite()
	return form.rows(0, len(form.leads()))
}

// isFull tells whether the rank is the number of columns.
func (a table) isFull() bool {
	return a.lattice().r == a.c
}

// index is the product of the numbers on the diagonal.
func (a table) index() *big.Int {
	product := big.NewInt(1)
	for k := range min(a.r, a.c) {
		product.Mul(product, a.get(k, k))
	}
	return product
}

// minors is the determinants of as many rows as there are columns.
func (a table) minors() []*big.Int {
	var list []*big.Int
	var take func(from int, taken []*big.Int)
	take = func(from int, taken []*big.Int) {
		if len(taken) == a.c*a.c {
			list = append(list, table{r: a.c, c: a.c, at: taken}.det())
			return
		}
		for i := from; i < a.r; i++ {
			take(i+1, slices.Concat(taken, a.row(i)))
		}
	}
	take(0, nil)
	return list
}

// drawnForm is a matrix in Hermite's form, mostly with noughts at its end, and with
// pivots that aren't 1.
func drawnForm(source *rand.Rand, r, c int) table {
	out := tableBy(r, c, func(_, _ int) *big.Int { return new(big.Int) })
	n := 0
	for k := range c {
		if n == r || source.Intn(4) == 0 {
			for i := range n {
				out.at[i*c+k] = big.NewInt(int64(source.Intn(41) - 20))
			}
			continue
		}
		pivot := int64(1 + source.Intn(12)*source.Intn(2))
		out.at[n*c+k] = big.NewInt(pivot)
		for i := range n {
			out.at[i*c+k] = big.NewInt(source.Int63n(pivot))
		}
		n++
	}
	return out
}

// turned is a's rows, turned so many times: its form stays.
func (a table) turned(source *rand.Rand, times int) table {
	out := table{r: a.r, c: a.c, at: slices.Clone(a.at)}
	for range times {
		i, k := source.Intn(a.r), source.Intn(a.r)
		switch source.Intn(4) {
		case 0:
			out.swap(i, k)
		case 1:
			out.negate(i)
		default:
			if i != k {
				out.addTimes(i, k, big.NewInt(int64(source.Intn(5)-2)))
			}
		}
	}
	return out
}

// drawnFull is a form that has a row for each column, with pivots that aren't 1, and so
// many rows of noughts.
func drawnFull(source *rand.Rand, c, noughts int) table {
	out := tableBy(c+noughts, c, func(_, _ int) *big.Int { return new(big.Int) })
	for k := range c {
		pivot := int64(1 + source.Intn(40)*source.Intn(2))
		out.at[k*c+k] = big.NewInt(pivot)
		for i := range k {
			out.at[i*c+k] = big.NewInt(source.Int63n(pivot))
		}
	}
	return out
}
