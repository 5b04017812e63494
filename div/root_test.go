package div

import (
	"math/big"
	"math/rand"
	"testing"

	"quincunx/api"
	"quincunx/nat"
)

func checkRoot(t *testing.T, a nat.Nat) {
	t.Helper()
	root, rest := Root(a)
	want := new(big.Int).Sqrt(valueOf(a))
	expect(t, "Root", root, want)
	expect(t, "Root's rest", rest, want.Sub(valueOf(a), want.Mul(want, want)))
}

// checkSquare holds Root of x's square, and of the numbers next to it: of which
// the one below has the root below, and the last one before the next square has
// this root still.
func checkSquare(t *testing.T, x nat.Nat) {
	t.Helper()
	square := nat.Mul(x, x)
	root, rest := Root(square)
	alike(t, "root of a square", root, nat.Norm(x))
	alike(t, "rest of a square", rest, nil)
	twice := nat.MulAdd(x, 2, 0)
	root, rest = Root(nat.Add(square, twice))
	alike(t, "root ahead of the next square", root, nat.Norm(x))
	alike(t, "rest ahead of the next square", rest, twice)
	checkRoot(t, nat.Add(square, nat.Of(1)))
	if below, ok := nat.Sub(square, nat.Of(1)); ok {
		less, _ := nat.Sub(x, nat.Of(1))
		root, rest = Root(below)
		alike(t, "root below a square", root, less)
		alike(t, "rest below a square", rest, nat.MulAdd(less, 2, 0))
	}
}

// P3.2: Root of small numbers, and of samples, normal and not.
func TestRoot(t *testing.T) {
	for x := range uint64(5000) {
		checkRoot(t, nat.Of(x))
	}
	for _, a := range samples() {
		checkRoot(t, a)
		checkRoot(t, longer(a, 7))
	}
	root, rest := Root(nat.Of(10))
	if nat.Cmp(root, nat.Of(3)) != 0 || nat.Cmp(rest, nat.Of(1)) != 0 {
		t.Error(root, rest)
	}
}

// P3.2: Root of 0.
func TestRootOfNought(t *testing.T) {
	for _, a := range noughts() {
		if root, rest := Root(a); len(root) != 0 || len(rest) != 0 {
			t.Error(a, root, rest)
		}
	}
}

// P3.2: Root of squares, and of the numbers next to them.
func TestRootOfSquares(t *testing.T) {
	for _, a := range samples() {
		checkSquare(t, a)
	}
	for x := range uint64(300) {
		checkSquare(t, nat.Of(x))
		checkSquare(t, nat.Of(1<<32-x))
		checkSquare(t, nat.Of(1<<32+x))
	}
	source := rand.New(rand.NewSource(10))
	for range 2000 {
		checkSquare(t, drawn(source, 1+source.Intn(20)))
	}
}

// P3.2: Root of numbers of each number of bits: the least of them, the greatest,
// and such as lie between.
func TestRootOfEachLength(t *testing.T) {
	source := rand.New(rand.NewSource(11))
	for n := range 700 {
		power := powerOfTwo(n)
		checkRoot(t, power)
		checkSquare(t, power)
		less, _ := nat.Sub(power, nat.Of(1))
		checkRoot(t, less)
		checkSquare(t, less)
		high, _ := nat.Shr(drawn(source, 12), n)
		checkRoot(t, high)
	}
}

// P3.2: Root of long numbers.
func TestRootOfManyWords(t *testing.T) {
	source := rand.New(rand.NewSource(12))
	for _, n := range []int{100, 257, 1000, 3001} {
		checkRoot(t, drawn(source, n))
		checkSquare(t, drawn(source, n/2))
	}
}

// P3.2: Root of so many bits that even a quarter of them is above MaxBits.
func TestRootOfVeryManyWords(t *testing.T) {
	root, rest := Root(nat.Add(powerOfTwo(4*api.MaxBits+200), nat.Of(5)))
	alike(t, "root", root, powerOfTwo(2*api.MaxBits+100))
	alike(t, "rest", rest, nat.Of(5))
}

// P3.2: what is shifted up for a root may have more bits than MaxBits.
func TestShiftUp(t *testing.T) {
	for _, a := range []nat.Nat{{1}, {3, 0}, {top, top}} {
		for _, n := range []int{0, 1, 63, 64, 65, api.MaxBits, api.MaxBits + 1, 3*api.MaxBits + 63} {
			expect(t, "shiftUp", shiftUp(a, n), new(big.Int).Lsh(valueOf(a), uint(n)))
		}
	}
}
