package alu_test

import (
	"math"
	"math/bits"
	"testing"

	"remontoire/alu"
	"remontoire/api"
)

// words are the words at whose edges something changes, and a few without a pattern.
var words = []uint32{
	0, 1, 2, 3, 4, 5, 8, 0x7F, 0x80, 0xFF, 0x100, 0xFFFF, 0x10000, 0x12345678, 0x3FFFFFFF, 0x40000000,
	0x55555555, 0x7FFFFFFE, 0x7FFFFFFF, 0x80000000, 0x80000001, 0x9ABCDEF0, 0xAAAAAAAA, 0xC0000000,
	0xDEADBEEF, 0xFFFF0000, 0xFFFFFFFE, 0xFFFFFFFF,
}

var carries = []uint32{0, 1, 2, 7, 0x80000000, 0xFFFFFFFF}

func one(holds bool) uint32 {
	if holds {
		return 1
	}
	return 0
}

// The kinds' numbers are promised, not only their names.
func TestKinds(t *testing.T) {
	if alu.LSL != 0 || alu.LSR != 1 || alu.ASR != 2 || alu.ROR != 3 {
		t.Error(alu.LSL, alu.LSR, alu.ASR, alu.ROR)
	}
}

// P1.1: Add at sums that are written out.
func TestAddByHand(t *testing.T) {
	for _, x := range []struct{ x, y, c, sum, carry, over uint32 }{
		{0, 0, 0, 0, 0, 0},
		{0, 0, 1, 1, 0, 0},
		{20, 22, 0, 42, 0, 0},
		{0xFFFFFFFF, 1, 0, 0, 1, 0},
		{0xFFFFFFFF, 0, 1, 0, 1, 0},
		{0xFFFFFFFF, 0xFFFFFFFF, 0, 0xFFFFFFFE, 1, 0},
		{0xFFFFFFFF, 0xFFFFFFFF, 1, 0xFFFFFFFF, 1, 0},
		{0x7FFFFFFF, 0, 0, 0x7FFFFFFF, 0, 0},
		{0x7FFFFFFF, 0, 1, 0x80000000, 0, 1},
		{0x7FFFFFFF, 1, 0, 0x80000000, 0, 1},
		{0x7FFFFFFF, 0x7FFFFFFF, 1, 0xFFFFFFFF, 0, 1},
		{0x80000000, 0x80000000, 0, 0, 1, 1},
		{0x80000000, 0xFFFFFFFF, 0, 0x7FFFFFFF, 1, 1},
		{0x80000000, 0xFFFFFFFF, 1, 0x80000000, 1, 0},
		{1, 2, 2, 4, 0, 0},
		{1, 2, 0xFFFFFFFF, 4, 0, 0},
	} {
		sum, carry, over := alu.Add(x.x, x.y, x.c)
		if sum != x.sum || carry != x.carry || over != x.over {
			t.Errorf("Add(%#x, %#x, %#x): %#x %d %d, not %#x %d %d", x.x, x.y, x.c, sum, carry, over, x.sum, x.carry, x.over)
		}
	}
}

// P1.1: Add held against sums of 64 bits, unsigned and signed.
func TestAddAgainstGreaterSums(t *testing.T) {
	for _, x := range words {
		for _, y := range words {
			for _, c := range carries {
				whole := uint64(x) + uint64(y) + uint64(one(c != 0))
				signed := int64(int32(x)) + int64(int32(y)) + int64(one(c != 0))
				low := uint32(whole)
				sum, carry, over := alu.Add(x, y, c)
				if sum != low || carry != one(whole >= 1<<32) || over != one(signed != int64(int32(low))) {
					t.Fatalf("Add(%#x, %#x, %#x): %#x %d %d", x, y, c, sum, carry, over)
				}
			}
		}
	}
}

// shifted says in closed form what Shift comes to bit by bit, so that both can't be wrong alike.
func shifted(kind int, x uint32, n int, c uint32) (uint32, uint32) {
	if n == 0 {
		return x, one(c != 0)
	}
	last := uint(n - 1)
	switch kind {
	case alu.LSL:
		return x << uint(n), x << last >> 31
	case alu.LSR:
		return x >> uint(n), x >> last & 1
	case alu.ASR:
		return uint32(int32(x) >> uint(n)), uint32(int32(x)>>last) & 1
	}
	y := bits.RotateLeft32(x, -n)
	return y, y >> 31
}

// P1.1: Shift at all kinds and numbers.
func TestShiftAll(t *testing.T) {
	for kind := range 4 {
		for n := range 256 {
			for _, x := range words {
				for _, c := range carries {
					want, bit := shifted(kind, x, n, c)
					y, carry, e := alu.Shift(kind, x, n, c)
					if y != want || carry != bit || e != api.OK {
						t.Fatalf("Shift(%d, %#x, %d, %#x): %#x %d %d, not %#x %d", kind, x, n, c, y, carry, e, want, bit)
					}
				}
			}
		}
	}
}

// P1.1: Shift at the edges that the chapter names, written out.
func TestShiftEdges(t *testing.T) {
	for _, x := range []struct {
		kind        int
		x           uint32
		n           int
		c           uint32
		want, carry uint32
	}{
		{alu.LSL, 0x80000001, 0, 0, 0x80000001, 0},
		{alu.LSL, 0x80000001, 0, 9, 0x80000001, 1},
		{alu.LSL, 0x80000001, 1, 0, 2, 1},
		{alu.LSL, 3, 31, 0, 0x80000000, 1},
		{alu.LSL, 0x80000001, 32, 0, 0, 1},
		{alu.LSL, 0xFFFFFFFE, 32, 1, 0, 0},
		{alu.LSL, 0xFFFFFFFF, 33, 1, 0, 0},
		{alu.LSL, 0xFFFFFFFF, 255, 1, 0, 0},
		{alu.LSR, 5, 0, 2, 5, 1},
		{alu.LSR, 5, 1, 0, 2, 1},
		{alu.LSR, 0x80000000, 32, 0, 0, 1},
		{alu.LSR, 0x7FFFFFFF, 32, 1, 0, 0},
		{alu.LSR, 0xFFFFFFFF, 33, 1, 0, 0},
		{alu.LSR, 0xFFFFFFFF, 255, 1, 0, 0},
		{alu.ASR, 0x80000000, 0, 3, 0x80000000, 1},
		{alu.ASR, 0x80000000, 4, 1, 0xF8000000, 0},
		{alu.ASR, 0x80000000, 32, 0, 0xFFFFFFFF, 1},
		{alu.ASR, 0x80000000, 33, 0, 0xFFFFFFFF, 1},
		{alu.ASR, 0x80000000, 255, 0, 0xFFFFFFFF, 1},
		{alu.ASR, 0x7FFFFFFF, 33, 1, 0, 0},
		{alu.ASR, 0x7FFFFFFF, 255, 1, 0, 0},
		{alu.ROR, 1, 0, 0, 1, 0},
		{alu.ROR, 1, 0, 4, 1, 1},
		{alu.ROR, 1, 1, 0, 0x80000000, 1},
		{alu.ROR, 0x80000001, 32, 0, 0x80000001, 1},
		{alu.ROR, 1, 32, 1, 1, 0},
		{alu.ROR, 1, 33, 0, 0x80000000, 1},
		{alu.ROR, 1, 255, 1, 2, 0},
	} {
		y, carry, e := alu.Shift(x.kind, x.x, x.n, x.c)
		if y != x.want || carry != x.carry || e != api.OK {
			t.Errorf("Shift(%d, %#x, %d, %#x): %#x %d %d, not %#x %d", x.kind, x.x, x.n, x.c, y, carry, e, x.want, x.carry)
		}
	}
}

// P1.1: what isn't a shift is refused, with noughts beside the error.
func TestShiftRefuses(t *testing.T) {
	for _, x := range []struct{ kind, n int }{
		{-1, 0}, {-1, 1}, {4, 0}, {4, 1}, {5, 32}, {math.MinInt, 1}, {math.MaxInt, 1},
		{alu.LSL, -1}, {alu.LSR, -1}, {alu.ASR, -1}, {alu.ROR, -1},
		{alu.LSL, 256}, {alu.LSR, 256}, {alu.ASR, 256}, {alu.ROR, 256},
		{alu.ROR, math.MinInt}, {alu.LSL, math.MaxInt}, {4, 256}, {-1, -1},
	} {
		for _, c := range carries {
			y, carry, e := alu.Shift(x.kind, 0xFFFFFFFF, x.n, c)
			if y != 0 || carry != 0 || e != api.ErrRange {
				t.Errorf("Shift(%d, 0xFFFFFFFF, %d, %#x): %#x %d %d", x.kind, x.n, c, y, carry, e)
			}
		}
	}
}

// P1.2: Len, at both sides of each power of two.
func TestLen(t *testing.T) {
	if n := alu.Len(0); n != 0 {
		t.Error(0, n)
	}
	if n := alu.Len(8); n != 4 {
		t.Error(8, n)
	}
	for k := range 32 {
		low, high := uint32(1)<<k, uint32(1)<<k-1+uint32(1)<<k
		if alu.Len(low) != k+1 || alu.Len(high) != k+1 {
			t.Errorf("Len(%#x), Len(%#x): %d, %d", low, high, alu.Len(low), alu.Len(high))
		}
	}
}

// P1.2: Bit, where there is one and where there is none.
func TestBit(t *testing.T) {
	for _, x := range words {
		for n, left := 0, x; n < 32; n, left = n+1, left/2 {
			if alu.Bit(x, n) != left%2 {
				t.Errorf("Bit(%#x, %d): %d", x, n, alu.Bit(x, n))
			}
		}
		for _, n := range []int{-1, -32, 32, 33, 64, 255, 1 << 32, math.MinInt, math.MaxInt} {
			if alu.Bit(x, n) != 0 {
				t.Errorf("Bit(%#x, %d) isn't 0", x, n)
			}
		}
	}
}

// P1.2: Wide and Pair, by hand and against products of 64 bits.
func TestWideAndPair(t *testing.T) {
	if lo, hi := alu.Wide(0x10000, 0x30000); lo != 0 || hi != 3 {
		t.Error(lo, hi)
	}
	if lo, hi := alu.Wide(0xFFFFFFFF, 0xFFFFFFFF); lo != 1 || hi != 0xFFFFFFFE {
		t.Error(lo, hi)
	}
	if x := alu.Pair(5, 7); x != 7<<32+5 {
		t.Error(x)
	}
	for _, x := range words {
		for _, y := range words {
			product := uint64(x) * uint64(y)
			lo, hi := alu.Wide(x, y)
			if uint64(lo) != product%(1<<32) || uint64(hi) != product/(1<<32) {
				t.Fatalf("Wide(%#x, %#x): %#x %#x", x, y, lo, hi)
			}
			if whole := alu.Pair(x, y); whole != uint64(y)*(1<<32)+uint64(x) {
				t.Fatalf("Pair(%#x, %#x): %#x", x, y, whole)
			}
		}
	}
}
