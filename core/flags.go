package core

import "remontoire/alu"

const (
	topBit   = 31
	lastCond = 13
)

// Holds tells whether a condition holds.
func Holds(s State, cond int) bool {
	if cond < 0 || cond > lastCond {
		return false
	}
	// The conditions are pairs: an odd one is that the even one ahead of it doesn't hold.
	odd := cond%2 == 1
	return holdsEven(withBits(s), cond/2) != odd
}

// holdsEven tells whether the first condition of a pair holds.
func holdsEven(s State, pair int) bool {
	switch pair {
	case 0:
		return s.Z == 1
	case 1:
		return s.C == 1
	case 2:
		return s.N == 1
	case 3:
		return s.V == 1
	case 4:
		return s.C == 1 && s.Z == 0
	case 5:
		return s.N == s.V
	}
	return s.Z == 0 && s.N == s.V
}

// withBits is a state whose flags are 0 or 1.
func withBits(s State) State {
	s.N, s.Z, s.C, s.V = asBit(s.N), asBit(s.Z), asBit(s.C), asBit(s.V)
	return s
}

// asBit is a flag as it counts: whatever isn't 0 is 1.
func asBit(flag uint32) uint32 {
	if flag != 0 {
		return 1
	}
	return 0
}

// signs sets the flags that tell of a word itself.
func (s *State) signs(x uint32) {
	s.N = alu.Bit(x, topBit)
	s.Z = 1 - asBit(x)
}
