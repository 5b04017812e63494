package gfp

// Inv is the element whose product with a is 1. By Fermat it is a to the p - 2, as a
// to the p - 1 is 1; 0, which has none, answers 0: by 2 its power would be 1.
func (f Field) Inv(a uint64) uint64 {
	if f.Norm(a) == 0 {
		return 0
	}
	return f.power(a, f.P()-2)
}

// Pow is the product of n times a; of an n below 0, that of -n times a's inverse. As
// a word, -n is there for the least n too.
func (f Field) Pow(a uint64, n int) uint64 {
	if n < 0 {
		return f.power(f.Inv(a), -uint64(n))
	}
	return f.power(a, uint64(n))
}

// power goes by squares: the exponent's bits tell which of them are taken.
func (f Field) power(a, n uint64) uint64 {
	product := uint64(1)
	for square := a; n > 0; n >>= 1 {
		if n&1 == 1 {
			product = f.Mul(product, square)
		}
		square = f.Mul(square, square)
	}
	return product
}
