package modn

import (
	"quincunx/api"
	"quincunx/zint"
)

// Crt is the least number from 0 on that has all these rests, and the least common
// multiple of all moduli; of none 0 and 1.
func Crt(rests, moduli []zint.Int) (zint.Int, zint.Int, api.Errno) {
	if len(rests) != len(moduli) {
		return zint.Int{}, zint.Int{}, api.ErrShape
	}
	for _, m := range moduli {
		if zint.Sign(m) <= 0 {
			return zint.Int{}, zint.Int{}, api.ErrArg
		}
	}
	all, ok := joinAll(pileOf(rests, moduli))
	if !ok {
		return zint.Int{}, zint.Int{}, api.ErrNone
	}
	return all.rest, all.modulus, api.OK
}

// joinAll joins the two of the least moduli, until one is left: so the moduli stay
// of like lengths. False, if two have no number in common.
func joinAll(p *pile) (class, bool) {
	if p.Len() == 0 {
		return class{modulus: zint.Of(1)}, true
	}
	for p.Len() > 1 {
		less, more := p.take(), p.take()
		both, ok := join(less, more)
		if !ok {
			return class{}, false
		}
		p.put(both)
	}
	return p.take(), true
}

// class is the numbers that have this rest, which is below the modulus.
type class struct {
	rest, modulus zint.Int
}

// join is the numbers that are in both classes; false, if there are none. Those of
// the second one are its rest and its modulus so many times: how many, the lesser
// modulus tells, less what both moduli have in common.
func join(less, more class) (class, bool) {
	g, inverse, _ := zint.Xgcd(more.modulus, less.modulus)
	apart, ok := zint.Exact(zint.Sub(less.rest, more.rest), g)
	if !ok {
		return class{}, false
	}
	part, _ := zint.Exact(less.modulus, g)
	times, _ := Mod(zint.Mul(apart, inverse), part)
	return class{
		rest:    zint.Add(more.rest, zint.Mul(more.modulus, times)),
		modulus: zint.Mul(more.modulus, part),
	}, true
}
