// Package lehmer stands beside the layers: steps of Euclid's way of two naturals,
// many at once (Lehmer's way), for common divisors and their cofactors.
package lehmer

import (
	"math/bits"

	"quincunx/nat"
)

const wordBits = 64

// Jump is some steps at once: a becomes P a - Q b, and b becomes S b - R a. As
// P S - Q R is 1, their common divisors stay.
type Jump struct {
	P, Q, R, S uint64
}

// Of is steps that leave neither a nor b below 0, as many as their leading words
// are sure of: all of them, if a has just a word. Both have as many words, a's
// last one isn't 0, and b isn't greater than a.
func Of(a, b nat.Nat) Jump {
	if len(a) == 1 {
		return whole(a[0], b[0])
	}
	return sure(leading(a, b))
}

// IsNone tells whether there are no steps.
func (j Jump) IsNone() bool {
	return j.Q == 0
}

// leading is the greatest 64 bits of a, the greatest one of which is set, and
// what b has in their places.
func leading(a, b nat.Nat) (uint64, uint64) {
	n := len(a)
	up := bits.LeadingZeros64(a[n-1])
	down := wordBits - up
	return a[n-1]<<up | a[n-2]>>down, b[n-1]<<up | b[n-2]>>down
}

// sure is the steps that x and y, the leading words of a and b, are sure of. A
// word leaves out less than 1 of its number, so that P a - Q b is above
// P x - Q y - Q: a step is taken only where that isn't below 0, and then serves,
// be it just Euclid's own or not.
func sure(x, y uint64) Jump {
	s := start(x, y)
	for s.y != 0 && s.x%s.y >= s.jump.Q+s.x/s.y*s.jump.S {
		s.next()
	}
	return s.unturned()
}

// whole is all steps, till x or y is 0.
func whole(x, y uint64) Jump {
	s := start(x, y)
	for s.y != 0 {
		s.next()
	}
	return s.unturned()
}

// steps is what x and y have come to. Nothing runs over: x is, at first, S times
// what is left of it and Q times what is left of y, and y likewise with R and P.
type steps struct {
	x, y     uint64
	jump     Jump
	isTurned bool
}

func start(x, y uint64) steps {
	return steps{x: x, y: y, jump: Jump{P: 1, S: 1}}
}

// next takes y out of x, and lets both change places.
func (s *steps) next() {
	times, j := s.x/s.y, s.jump
	s.x, s.y = s.y, s.x%s.y
	s.jump = Jump{j.S, j.R, j.Q + times*j.S, j.P + times*j.R}
	s.isTurned = !s.isTurned
}

// unturned is the jump that leaves a and b in their places.
func (s *steps) unturned() Jump {
	j := s.jump
	if s.isTurned {
		return Jump{j.S, j.R, j.Q, j.P}
	}
	return j
}
