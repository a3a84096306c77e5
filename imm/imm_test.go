package imm_test

import (
	"math"
	"math/bits"
	"testing"

	"remontoire/api"
	"remontoire/imm"
)

var carries = []uint32{0, 1, 2, 7, 0x80000000, 0xFFFFFFFF}

// outside are numbers below 0 and above 4095, some of which have twelve low bits that would do.
var outside = []int{-1, -2, -256, -4095, -4096, 4096, 4097, 4351, 8192, 1 << 16, 1<<32 + 5, math.MinInt, math.MinInt + 1, math.MaxInt}

// wordless are the numbers in their range that have no word.
var wordless = []int{0x100, 0x200, 0x300}

func one(holds bool) uint32 {
	if holds {
		return 1
	}
	return 0
}

// expected says by the chapter's words, without factors and layer 1, which word a number has, and whether it has one.
func expected(n int) (uint32, bool) {
	b := uint32(n % 256)
	switch n / 256 {
	case 0:
		return b, true
	case 1:
		return b | b<<16, b != 0
	case 2:
		return b<<8 | b<<24, b != 0
	case 3:
		return b | b<<8 | b<<16 | b<<24, b != 0
	}
	return bits.RotateLeft32(uint32(128+n%128), -(n / 128)), true
}

// numbersOfWords are the numbers by their words, of all that have one.
func numbersOfWords() map[uint32]int {
	found := map[uint32]int{}
	for n := range 4096 {
		if x, ok := expected(n); ok {
			found[x] = n
		}
	}
	return found
}

// pairs are numbers with their words, written out: the edges of each value of bits 11 to 8 below 4, the first and the last that is turned.
var pairs = []struct {
	n int
	x uint32
}{
	{0x000, 0}, {0x001, 1}, {0x07F, 0x7F}, {0x080, 0x80}, {0x0FF, 0xFF},
	{0x101, 0x00010001}, {0x180, 0x00800080}, {0x1AB, 0x00AB00AB}, {0x1FF, 0x00FF00FF},
	{0x201, 0x01000100}, {0x280, 0x80008000}, {0x2AB, 0xAB00AB00}, {0x2FF, 0xFF00FF00},
	{0x301, 0x01010101}, {0x380, 0x80808080}, {0x3CD, 0xCDCDCDCD}, {0x3FF, 0xFFFFFFFF},
	{0x400, 0x80000000}, {0x401, 0x81000000}, {0x47F, 0xFF000000}, {0x480, 0x40000000}, {0x4FF, 0x7F800000},
	{0x7FF, 0x01FE0000}, {0x800, 0x00800000}, {0xBFF, 0x0001FE00}, {0xC00, 0x00008000},
	{0xF00, 0x200}, {0xF41, 0x304}, {0xF7F, 0x3FC}, {0xF80, 0x100}, {0xF82, 0x104}, {0xFFF, 0x1FE},
}

// P2.1, P2.2: Word and Of at numbers and words that are written out.
func TestByHand(t *testing.T) {
	for _, p := range pairs {
		if x, e := imm.Word(p.n); x != p.x || e != api.OK {
			t.Errorf("Word(%#x): %#x %d, not %#x", p.n, x, e, p.x)
		}
		if n, e := imm.Of(p.x); n != p.n || e != api.OK {
			t.Errorf("Of(%#x): %#x %d, not %#x", p.x, n, e, p.n)
		}
		if !imm.Is(p.x) {
			t.Errorf("Is(%#x) doesn't hold", p.x)
		}
	}
}

// P2.1: Word of all numbers in their range.
func TestWordAll(t *testing.T) {
	for n := range 4096 {
		want, ok := expected(n)
		x, e := imm.Word(n)
		if ok && (x != want || e != api.OK) {
			t.Errorf("Word(%#x): %#x %d, not %#x", n, x, e, want)
		}
		if !ok && (x != 0 || e != api.ErrImm) {
			t.Errorf("Word(%#x): %#x %d", n, x, e)
		}
	}
}

// P2.1: Carry of all numbers that have words, at carries that are bits and others.
func TestCarryAll(t *testing.T) {
	for n := range 4096 {
		word, ok := expected(n)
		if !ok {
			continue
		}
		for _, c := range carries {
			want := one(c != 0)
			if n >= 0x400 {
				want = word >> 31
			}
			if carry, e := imm.Carry(n, c); carry != want || e != api.OK {
				t.Errorf("Carry(%#x, %#x): %d %d, not %d", n, c, carry, e, want)
			}
		}
	}
}

// P2.1: Carry written out, at both sides of the first number that is turned.
func TestCarryByHand(t *testing.T) {
	for _, x := range []struct {
		n       int
		c, want uint32
	}{
		{0, 0, 0}, {0, 1, 1}, {0, 2, 1}, {0xFF, 0xFFFFFFFF, 1}, {0x1FF, 0, 0}, {0x1FF, 0x80000000, 1},
		{0x280, 0, 0}, {0x280, 4, 1}, {0x3FF, 0, 0}, {0x3FF, 1, 1},
		{0x400, 0, 1}, {0x400, 1, 1}, {0x47F, 0, 1}, {0x480, 1, 0}, {0x480, 9, 0}, {0xFFF, 0, 0}, {0xFFF, 1, 0},
	} {
		if carry, e := imm.Carry(x.n, x.c); carry != x.want || e != api.OK {
			t.Errorf("Carry(%#x, %#x): %d %d, not %d", x.n, x.c, carry, e, x.want)
		}
	}
}

// P2.1: numbers out of their range, and such without a word, are refused, with noughts beside the error.
func TestNumbersRefused(t *testing.T) {
	refused := func(n int, want api.Errno) {
		if x, e := imm.Word(n); x != 0 || e != want {
			t.Errorf("Word(%d): %#x %d, not %d", n, x, e, want)
		}
		for _, c := range carries {
			if carry, e := imm.Carry(n, c); carry != 0 || e != want {
				t.Errorf("Carry(%d, %#x): %d %d, not %d", n, c, carry, e, want)
			}
		}
	}
	for _, n := range outside {
		refused(n, api.ErrRange)
	}
	for _, n := range wordless {
		refused(n, api.ErrImm)
	}
}

// P2.2: Of and Is undo Word, and no word is that of two numbers.
func TestOfWords(t *testing.T) {
	first := map[uint32]int{}
	for n := range 4096 {
		x, e := imm.Word(n)
		if e != api.OK {
			continue
		}
		if m, there := first[x]; there {
			t.Errorf("%#x is the word of %#x and of %#x", x, m, n)
		}
		first[x] = n
		if m, e := imm.Of(x); m != n || e != api.OK || !imm.Is(x) {
			t.Errorf("Of(%#x): %#x %d, not %#x; Is: %t", x, m, e, n, imm.Is(x))
		}
	}
	if len(first) != 4096-len(wordless) {
		t.Error(len(first))
	}
}

// P2.2: Of and Is at words that are nearly some number's: of all words, those that are refused must be just the others.
func TestOfNearWords(t *testing.T) {
	found := numbersOfWords()
	held := func(x uint32) {
		want, there := found[x]
		n, e := imm.Of(x)
		if there && (n != want || e != api.OK) || !there && (n != 0 || e != api.ErrImm) || imm.Is(x) != there {
			t.Fatalf("Of(%#x): %#x %d, not %#x; Is: %t", x, n, e, want, imm.Is(x))
		}
	}
	for x := range found {
		held(x + 1)
		held(x - 1)
		held(^x)
		for k := range 32 {
			held(x ^ 1<<k)
			held(bits.RotateLeft32(x, k))
			held(x >> k)
			held(x << k)
		}
	}
	for x := range uint32(1 << 17) {
		held(x)
		held(x << 15)
		held(x * 0x9E3779B1)
	}
}

// P2.2: words that no number has, written out: noughts beside the error.
func TestWordsRefused(t *testing.T) {
	for _, x := range []uint32{
		0x101, 0x103, 0x1FF, 0x201, 0x3FE, 0x00010002, 0x00FF00FE, 0x01FF01FF, 0x00010100, 0x01000101, 0x01010100, 0x01010102,
		0xAB00AC00, 0xAB00AB01, 0xCDCDCDCC, 0x12345678, 0x80000001, 0xF000000F, 0xFF000001, 0xFF800000, 0x7FFFFFFF, 0xFFFFFFFE,
	} {
		if n, e := imm.Of(x); n != 0 || e != api.ErrImm {
			t.Errorf("Of(%#x): %#x %d", x, n, e)
		}
		if imm.Is(x) {
			t.Errorf("Is(%#x) holds", x)
		}
	}
}

// P2.2: All tells all numbers that have words, rising, and so again when it is gone through again.
func TestAll(t *testing.T) {
	all := imm.All()
	for range 2 {
		next := 0
		for n, x := range all {
			for next == 0x100 || next == 0x200 || next == 0x300 {
				next++
			}
			want, _ := expected(next)
			if n != next || x != want {
				t.Fatalf("All: %#x %#x, not %#x %#x", n, x, next, want)
			}
			next++
		}
		if next != 4096 {
			t.Errorf("All ends ahead of %#x", next)
		}
	}
}

// P2.2: All tells no more than is asked for, wherever it is left.
func TestAllInPart(t *testing.T) {
	for _, asked := range []int{1, 2, 5, 256, 257, 512, 1021, 1022, 4092, 4093} {
		told := 0
		imm.All()(func(int, uint32) bool {
			told++
			return told < asked
		})
		if told != asked {
			t.Errorf("All, asked for %d: %d", asked, told)
		}
	}
}

// P2.2: two goings through All don't disturb each other.
func TestAllWithin(t *testing.T) {
	all, outer := imm.All(), 0
	for n := range all {
		if n != outer {
			t.Fatalf("All: %d, not %d", n, outer)
		}
		inner := 0
		for m := range all {
			if m != inner {
				t.Fatalf("All within All: %d, not %d", m, inner)
			}
			inner++
			if inner == 7 {
				break
			}
		}
		outer++
		if outer == 9 {
			break
		}
	}
	if outer != 9 {
		t.Error(outer)
	}
}
