// Package alu is layer 1: see shared/doc/01-alu.md.
package alu

import (
	"math/bits"

	"remontoire/api"
)

// The kinds of shifts.
const (
	LSL = iota
	LSR
	ASR
	ROR
)

const (
	wordBits = 32
	maxShift = 255
)

// Bit is a bit of a word.
func Bit(x uint32, n int) uint32 {
	if n < 0 || n >= wordBits {
		return 0
	}
	return x >> n & 1
}

// Len is how many bits a word has.
func Len(x uint32) int { return bits.Len32(x) }

// Pair is a word above another one.
func Pair(lo, hi uint32) uint64 { return uint64(hi)<<wordBits | uint64(lo) }

// Wide is a product's two words.
func Wide(x, y uint32) (lo, hi uint32) {
	hi, lo = bits.Mul32(x, y)
	return lo, hi
}

// Add is a sum, its carry and its overflow.
func Add(x, y, c uint32) (sum, carry, over uint32) {
	sum, carry = bits.Add32(x, y, asBit(c))
	// A signed sum goes wrong just where both summands have one sign and the low bits the other.
	over = topBit((x ^ sum) & (y ^ sum))
	return sum, carry, over
}

// Shift is a word that is shifted, and the carry.
func Shift(kind int, x uint32, n int, c uint32) (uint32, uint32, api.Errno) {
	if kind < LSL || kind > ROR || n < 0 || n > maxShift {
		return 0, 0, api.ErrRange
	}
	carry := asBit(c)
	for range n {
		x, carry = shiftByOne(kind, x)
	}
	return x, carry, api.OK
}

// shiftByOne is a word that is shifted by one bit, and the bit that went out.
func shiftByOne(kind int, x uint32) (uint32, uint32) {
	switch kind {
	case LSL:
		return x << 1, topBit(x)
	case LSR:
		return x >> 1, lowBit(x)
	case ASR:
		return uint32(int32(x) >> 1), lowBit(x)
	default:
		return x>>1 | x<<(wordBits-1), lowBit(x)
	}
}

func topBit(x uint32) uint32 { return Bit(x, wordBits-1) }

func lowBit(x uint32) uint32 { return Bit(x, 0) }

// asBit is a carry as it counts: whatever isn't 0 is 1.
func asBit(c uint32) uint32 {
	if c != 0 {
		return 1
	}
	return 0
}
