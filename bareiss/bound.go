package bareiss

import (
	"quincunx/api"
	"quincunx/div"
	"quincunx/mul"
	"quincunx/nat"
	"quincunx/zint"
	"quincunx/zmat"
)

// Bound is the product of the rows' lengths, each rounded up: the determinant without
// its sign isn't greater.
func Bound(a zmat.Mat) (zint.Int, api.Errno) {
	if !isSquare(a) {
		return zint.Int{}, api.ErrShape
	}
	lengths := make([]nat.Nat, a.R)
	for i := range lengths {
		lengths[i] = length(a.A[i*a.C : (i+1)*a.C])
	}
	return zint.From(mul.Product(lengths), false), api.OK
}

// length is the least number whose square isn't less than the sum of the squares.
func length(row []zint.Int) nat.Nat {
	var sum nat.Nat
	for _, x := range row {
		sum = nat.Add(sum, mul.Square(x.A))
	}
	root, rest := div.Root(sum)
	if nat.Bits(rest) > 0 {
		return nat.Add(root, nat.Of(1))
	}
	return root
}
