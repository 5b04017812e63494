package modn

import (
	"math/big"
	"math/rand"
	"slices"
	"testing"

	"quincunx/api"
	"quincunx/zint"
)

func ofAll(list ...int64) []zint.Int {
	out := make([]zint.Int, len(list))
	for i, x := range list {
		out[i] = zint.Of(x)
	}
	return out
}

// goTogether tells whether a number has all these rests: it is there, if it is for
// each two of them.
func goTogether(rests, moduli []zint.Int) bool {
	for i, m := range moduli {
		for k, n := range moduli[:i] {
			common := new(big.Int).GCD(nil, nil, valueOf(m), valueOf(n))
			apart := new(big.Int).Sub(valueOf(rests[i]), valueOf(rests[k]))
			if apart.Mod(apart, common).Sign() != 0 {
				return false
			}
		}
	}
	return true
}

func commonMultiple(moduli []zint.Int) *big.Int {
	all := big.NewInt(1)
	for _, m := range moduli {
		common := new(big.Int).GCD(nil, nil, all, valueOf(m))
		all.Mul(all, common.Quo(valueOf(m), common))
	}
	return all
}

// checkCrt holds Crt against what tells it: the one number from 0 on, below the
// least common multiple, with these rests.
func checkCrt(t *testing.T, rests, moduli []zint.Int) {
	t.Helper()
	x, all, e := Crt(rests, moduli)
	if !goTogether(rests, moduli) {
		expectError(t, api.ErrNone, x, all, e)
		return
	}
	if e != api.OK {
		t.Fatal(rests, moduli, e)
	}
	expect(t, "the multiple", all, commonMultiple(moduli))
	if !isNormal(x) || valueOf(x).Sign() < 0 || valueOf(x).Cmp(valueOf(all)) >= 0 {
		t.Fatal(rests, moduli, x)
	}
	for i, m := range moduli {
		left := new(big.Int).Sub(valueOf(x), valueOf(rests[i]))
		if left.Mod(left, valueOf(m)).Sign() != 0 {
			t.Fatal(rests, moduli, x, i)
		}
	}
}

func expectError(t *testing.T, want api.Errno, x, all zint.Int, e api.Errno) {
	t.Helper()
	if e != want || x.Neg || len(x.A) > 0 || all.Neg || len(all.A) > 0 {
		t.Fatal(x, all, e, want)
	}
}

// P6.2: lists that are easily reckoned.
func TestCrt(t *testing.T) {
	for _, c := range []struct {
		rests, moduli []int64
		x, all        int64
	}{
		{[]int64{2, 3}, []int64{3, 5}, 8, 15}, {[]int64{3, 2}, []int64{5, 3}, 8, 15}, {[]int64{2, 3, 2}, []int64{3, 5, 7}, 23, 105},
		{nil, nil, 0, 1}, {[]int64{5}, []int64{7}, 5, 7}, {[]int64{7}, []int64{7}, 0, 7}, {[]int64{-1}, []int64{7}, 6, 7},
		{[]int64{9}, []int64{1}, 0, 1}, {[]int64{1, 3}, []int64{4, 6}, 9, 12}, {[]int64{3, 1}, []int64{6, 4}, 9, 12},
		{[]int64{-3, 21}, []int64{4, 6}, 9, 12}, {[]int64{4, 4, 4}, []int64{9, 9, 9}, 4, 9}, {[]int64{4, -5, 13}, []int64{9, 9, 9}, 4, 9},
		{[]int64{0, 0, 0}, []int64{4, 6, 10}, 0, 60}, {[]int64{5, 6, 7}, []int64{1, 1, 1}, 0, 1}, {[]int64{5, 6, 7}, []int64{1, 10, 1}, 6, 10},
		{[]int64{3, 11}, []int64{8, 16}, 11, 16}, {[]int64{11, 3}, []int64{16, 8}, 11, 16}, {[]int64{1, 2, 3, 4, 5}, []int64{2, 3, 4, 5, 6}, 59, 60},
	} {
		x, all, e := Crt(ofAll(c.rests...), ofAll(c.moduli...))
		if e != api.OK || !zint.Same(x, zint.Of(c.x)) || !zint.Same(all, zint.Of(c.all)) {
			t.Error(c, zint.Print(x), zint.Print(all), e)
		}
	}
}

// P6.2: rests that don't go together.
func TestCrtOfNone(t *testing.T) {
	for _, c := range [][2][]int64{
		{{1, 2}, {4, 6}}, {{2, 1}, {6, 4}}, {{3, 4}, {9, 9}}, {{0, 1, 1}, {2, 3, 4}}, {{1, 1, 0}, {4, 3, 2}}, {{1, 0, 1}, {3, 2, 4}},
		{{1, 2, 3, 4, 6}, {2, 3, 4, 5, 6}}, {{0, 0, 1, 0}, {10, 1, 15, 7}}, {{1, 2, -3}, {6, 35, 7}}, {{5, 5, 4}, {8, 16, 8}},
	} {
		x, all, e := Crt(ofAll(c[0]...), ofAll(c[1]...))
		expectError(t, api.ErrNone, x, all, e)
	}
}

// P6.2: all lists of one and of two small moduli, with all rests, and some below 0,
// and above the modulus: what is asked for is found by counting.
func TestCrtOfSmallModuli(t *testing.T) {
	for m := int64(1); m <= 12; m++ {
		for n := int64(1); n <= 12; n++ {
			for r := -m; r <= m; r++ {
				checkCrt(t, ofAll(r), ofAll(m))
				for s := int64(-2); s <= n+2; s++ {
					checkCrt(t, ofAll(r, s), ofAll(m, n))
					checkByCounting(t, r, s, m, n)
				}
			}
		}
	}
}

func checkByCounting(t *testing.T, r, s, m, n int64) {
	t.Helper()
	least := int64(0)
	for least < m*n && ((least-r)%m != 0 || (least-s)%n != 0) {
		least++
	}
	multiple := max(m, n)
	for multiple%m != 0 || multiple%n != 0 {
		multiple++
	}
	x, all, e := Crt(ofAll(r, s), ofAll(m, n))
	if least == m*n {
		expectError(t, api.ErrNone, x, all, e)
		return
	}
	if e != api.OK || !zint.Same(x, zint.Of(least)) || !zint.Same(all, zint.Of(multiple)) {
		t.Fatal(r, s, m, n, least, multiple, x, all, e)
	}
}

// P6.2: all lists of three small moduli.
func TestCrtOfThreeSmallModuli(t *testing.T) {
	for code := range 6 * 6 * 6 {
		m, n, o := int64(code%6+1), int64(code/6%6+1), int64(code/36+1)
		for r := range m {
			for s := range n {
				for q := range o {
					checkCrt(t, ofAll(r, s, q), ofAll(m, n, o))
				}
			}
		}
	}
}

// drawnSystem is n moduli that are drawn, some of them with common divisors, with
// the rests of one number, in many ways to write them.
func drawnSystem(source *rand.Rand, n int) ([]zint.Int, []zint.Int) {
	common, number := drawnModulus(source, 2), drawn(source, 1+source.Intn(6))
	var rests, moduli []zint.Int
	for i := range n {
		m := drawnModulus(source, 3)
		switch source.Intn(5) {
		case 0:
			m = zint.Mul(m, common)
		case 1:
			m = longer(zint.Of(1), source.Intn(2))
		case 2:
			if i > 0 {
				m = moduli[source.Intn(i)]
			}
		}
		rest := zint.Add(number, zint.Mul(m, zint.Of(int64(source.Intn(5)-2))))
		if source.Intn(2) == 0 {
			rest, _ = Mod(number, m)
		}
		moduli, rests = append(moduli, m), append(rests, longer(rest, source.Intn(2)))
	}
	return rests, moduli
}

// P6.2: rests of one number, and the same with one rest that is another one's.
func TestCrtOfDrawnModuli(t *testing.T) {
	source := rand.New(rand.NewSource(62))
	for range 1500 {
		rests, moduli := drawnSystem(source, source.Intn(9))
		if _, _, e := Crt(rests, moduli); e != api.OK {
			t.Fatal(rests, moduli, e)
		}
		checkCrt(t, rests, moduli)
		if n := len(rests); n > 0 {
			at := source.Intn(n)
			rests[at] = zint.Add(rests[at], zint.Of(1+int64(source.Intn(3))))
			checkCrt(t, rests, moduli)
		}
	}
}

// P6.2: in any order the answer is the same.
func TestCrtInAnyOrder(t *testing.T) {
	source := rand.New(rand.NewSource(63))
	for range 300 {
		rests, moduli := drawnSystem(source, 2+source.Intn(6))
		if source.Intn(3) == 0 {
			rests[0] = zint.Add(rests[0], zint.Of(1))
		}
		x, all, e := Crt(rests, moduli)
		for range 4 {
			source.Shuffle(len(rests), func(i, k int) {
				rests[i], rests[k] = rests[k], rests[i]
				moduli[i], moduli[k] = moduli[k], moduli[i]
			})
			y, other, f := Crt(rests, moduli)
			alike(t, "x", x, y)
			alike(t, "the multiple", all, other)
			if e != f {
				t.Fatal(e, f)
			}
		}
	}
}

// P6.2: rests and moduli that aren't normal, and 0 as a rest however it is written.
func TestCrtNotNormal(t *testing.T) {
	for _, nought := range noughts() {
		for _, m := range moduli() {
			checkCrt(t, []zint.Int{nought}, []zint.Int{m})
			checkCrt(t, []zint.Int{nought, longer(zint.Of(-1), 2)}, []zint.Int{m, longer(zint.Of(35), 3)})
		}
	}
	for _, r := range mixed() {
		for _, m := range moduli() {
			checkCrt(t, []zint.Int{r}, []zint.Int{m})
			checkCrt(t, []zint.Int{zint.Of(5), r, zint.Of(-2)}, []zint.Int{zint.Of(6), m, zint.Of(35)})
		}
	}
}

// P6.2: very many moduli, and very many of one.
func TestCrtOfMany(t *testing.T) {
	source := rand.New(rand.NewSource(64))
	number := drawn(source, 900)
	number.Neg = false
	var moduli, rests []zint.Int
	product := big.NewInt(1)
	for p := uint64(1 << 30); len(moduli) < 2000; {
		p, _ = Next(p)
		m := zint.Of(int64(p))
		rest, _ := Mod(number, m)
		moduli, rests = append(moduli, m), append(rests, rest)
		product.Mul(product, new(big.Int).SetUint64(p))
	}
	x, all, e := Crt(rests, moduli)
	if e != api.OK {
		t.Fatal(e)
	}
	expect(t, "x", x, valueOf(number))
	expect(t, "the multiple", all, product)
	x, all, e = Crt(slices.Repeat(ofAll(-1), 20000), slices.Repeat(ofAll(10), 20000))
	if e != api.OK || !zint.Same(x, zint.Of(9)) || !zint.Same(all, zint.Of(10)) {
		t.Fatal(x, all, e)
	}
}

// P6.2: lists of two lengths, whatever stands in them.
func TestCrtOfTwoLengths(t *testing.T) {
	for _, c := range [][2][]int64{
		{{1}, nil}, {nil, {1}}, {{1, 2}, {3}}, {{1}, {3, 5}}, {{1}, {0, 5}}, {{1, 2}, {0}}, {{1, 2}, {-1}}, {nil, {0}},
		{{1, 2}, {4, 6, 5}}, {{1, 2, 0}, {4, 6}}, {{1, 2, 0}, {4, -6}},
	} {
		x, all, e := Crt(ofAll(c[0]...), ofAll(c[1]...))
		expectError(t, api.ErrShape, x, all, e)
	}
}

// P6.2: moduli that aren't above 0 at each place, alone and beside rests that don't
// go together.
func TestCrtOfNoModulus(t *testing.T) {
	for _, bad := range noModuli() {
		for _, c := range [][2][]int64{{{1}, {4}}, {{1, 3}, {4, 6}}, {{1, 2}, {4, 6}}, {{1, 2, 3}, {4, 6, 8}}, {{2, 3, 4, 5}, {3, 5, 7, 11}}} {
			for at := range c[1] {
				rests, moduli := ofAll(c[0]...), ofAll(c[1]...)
				moduli[at] = bad
				x, all, e := Crt(rests, moduli)
				expectError(t, api.ErrArg, x, all, e)
				x, all, e = Crt(rests[1:], moduli)
				expectError(t, api.ErrShape, x, all, e)
			}
		}
		for n := 1; n < 4; n++ {
			x, all, e := Crt(make([]zint.Int, n), slices.Repeat([]zint.Int{bad}, n))
			expectError(t, api.ErrArg, x, all, e)
		}
	}
}
