package clock_test

import (
	"math"
	"testing"

	"remontoire/clock"
)

// P5.1: an address's line, at a line's first and last address.
func TestLine(t *testing.T) {
	for _, x := range []struct{ address, want uint32 }{
		{0, 0}, {1, 0}, {14, 0}, {15, 0}, {16, 1}, {17, 1}, {30, 1}, {31, 1}, {32, 2}, {160, 10},
		{0x0800000e, 0x800000}, {0x08000010, 0x800001}, {0x20000000, 0x2000000},
		{1<<31 - 1, 1<<27 - 1}, {1 << 31, 1 << 27}, {math.MaxUint32 - 16, 0xffffffe}, {math.MaxUint32 - 15, 0xfffffff}, {math.MaxUint32, 0xfffffff},
	} {
		if n := clock.Line(x.address); n != x.want {
			t.Errorf("Line(%#x): %#x, not %#x", x.address, n, x.want)
		}
	}
}

// has is a buffer that has a line.
func has(line uint32) clock.Buffer { return clock.Buffer{Full: true, Line: line} }

// P5.2: Fetch with a buffer that is empty, has the line already, or another one.
func TestFetches(t *testing.T) {
	empty := clock.Buffer{}
	for _, x := range []struct {
		b       clock.Buffer
		address uint32
		size    int
		want    clock.Buffer
		misses  int
	}{
		// The chapter's example, and an empty buffer at a line's other halves.
		{empty, 14, 4, has(1), 2},
		{empty, 0, 2, has(0), 1}, {empty, 0, 4, has(0), 1}, {empty, 12, 4, has(0), 1}, {empty, 14, 2, has(0), 1}, {empty, 16, 2, has(1), 1}, {empty, 16, 4, has(1), 1}, {empty, 30, 4, has(2), 2},
		// What an empty buffer has as its line is none.
		{clock.Buffer{Line: 1}, 16, 2, has(1), 1}, {clock.Buffer{Line: 1}, 16, 4, has(1), 1}, {clock.Buffer{Line: 1}, 14, 4, has(1), 2},
		// It has the line already.
		{has(0), 0, 2, has(0), 0}, {has(0), 14, 2, has(0), 0}, {has(0), 12, 4, has(0), 0}, {has(1), 16, 2, has(1), 0}, {has(1), 28, 4, has(1), 0}, {has(1), 30, 2, has(1), 0},
		// It has another one.
		{has(0), 16, 2, has(1), 1}, {has(0), 16, 4, has(1), 1}, {has(1), 14, 2, has(0), 1}, {has(1), 12, 4, has(0), 1}, {has(2), 16, 4, has(1), 1},
		// The halves lie in two lines: it has the first, the second, or neither; the first half's line goes ahead.
		{has(0), 14, 4, has(1), 1}, {has(1), 14, 4, has(1), 2}, {has(2), 14, 4, has(1), 2}, {has(0), 30, 4, has(2), 2}, {has(1), 30, 4, has(2), 1},
		// Odd addresses.
		{empty, 13, 4, has(0), 1}, {empty, 15, 2, has(0), 1}, {empty, 15, 4, has(1), 2}, {has(0), 13, 4, has(0), 0},
		// The second half comes at 0, and behind it.
		{empty, 0xfffffffe, 4, has(0), 2}, {has(0xfffffff), 0xfffffffe, 4, has(0), 1}, {has(0), 0xfffffffe, 4, has(0), 2}, {empty, 0xffffffff, 4, has(0), 2},
		// The last addresses from which all lies in one line.
		{empty, 0xfffffffe, 2, has(0xfffffff), 1}, {empty, 0xfffffffc, 4, has(0xfffffff), 1}, {has(0xfffffff), 0xfffffffc, 4, has(0xfffffff), 0},
		// Flash.
		{empty, 0x08000000, 4, has(0x800000), 1}, {has(0x800000), 0x0800000e, 4, has(0x800001), 1},
	} {
		if b, n := x.b.Fetch(x.address, x.size); b != x.want || n != x.misses {
			t.Errorf("%v.Fetch(%#x, %d): %v, %d, not %v, %d", x.b, x.address, x.size, b, n, x.want, x.misses)
		}
	}
}

// P5.2: halves that come one behind the other, as far as they go in a straight line, miss once a line.
func TestFetchStraight(t *testing.T) {
	for _, size := range []int{2, 4} {
		for _, from := range []uint32{0, 2, 0x08000006, 0xffffff80} {
			b, misses := clock.Buffer{}, 0
			lines := 1
			for n := range 64 {
				at := from + uint32(n*size)
				var more int
				b, more = b.Fetch(at, size)
				misses += more
				last := at + uint32(size) - 2
				if n > 0 && at%16 == 0 {
					lines++
				}
				if size == 4 && last%16 == 0 {
					lines++
				}
				if misses != lines || b != has(last/16) {
					t.Fatalf("from %#x, by %d, at %#x: %v, %d, not %d", from, size, at, b, misses, lines)
				}
			}
		}
	}
}

// P5.2: the buffer that fetches isn't changed by it.
func TestFetchLeaves(t *testing.T) {
	b := has(3)
	b.Fetch(0, 4)
	if b != has(3) {
		t.Error(b)
	}
}

// wrongSizes are sizes that no instruction has, some of which have low bits that would do.
var wrongSizes = []int{0, 1, 3, 5, 6, 8, 16, -1, -2, -4, 1<<8 + 2, 1<<16 + 4, 1<<32 + 2, 1<<32 + 4, math.MinInt, math.MinInt + 2, math.MaxInt}

// P5.2: Fetch of a wrong size: the buffer itself, and 0.
func TestFetchWrong(t *testing.T) {
	for _, size := range wrongSizes {
		for _, b := range []clock.Buffer{{}, {Line: 7}, has(0), has(1), has(math.MaxUint32)} {
			for _, address := range []uint32{0, 14, 16, 30, 0xfffffffe} {
				if c, n := b.Fetch(address, size); c != b || n != 0 {
					t.Errorf("%v.Fetch(%#x, %d): %v, %d", b, address, size, c, n)
				}
			}
		}
	}
}

// P5.2: Between at the edges of lines.
func TestBetween(t *testing.T) {
	for _, x := range []struct {
		from, fromSize, to, toSize uint32
		want                       int
	}{
		// In one line.
		{0, 2, 2, 2, 0}, {0, 2, 0, 2, 0}, {0, 4, 4, 4, 0}, {8, 4, 12, 4, 0}, {12, 4, 0, 2, 0}, {14, 2, 0, 4, 0},
		// From a line to the next one, and back.
		{14, 2, 16, 2, 1}, {14, 2, 16, 4, 1}, {12, 4, 16, 4, 1}, {16, 2, 14, 2, 1}, {16, 4, 12, 4, 1}, {0, 2, 0x08000000, 2, 1},
		// The first one's halves lie in two lines: the second one's line is left behind.
		{14, 4, 18, 2, 0}, {14, 4, 18, 4, 0}, {14, 4, 16, 2, 0}, {14, 4, 14, 2, 1}, {14, 4, 0, 4, 1}, {14, 4, 32, 2, 1},
		// The second one's halves lie in two lines.
		{12, 2, 14, 4, 1}, {10, 4, 14, 4, 1}, {14, 4, 14, 4, 2}, {16, 2, 14, 4, 2}, {0, 2, 30, 4, 2}, {14, 4, 30, 4, 1}, {30, 4, 14, 4, 2},
		// The second half comes at 0.
		{0xfffffffe, 4, 2, 2, 0}, {0xfffffffe, 4, 0, 4, 0}, {0xfffffffe, 4, 0xfffffffe, 2, 1}, {0xfffffffe, 4, 0xfffffffe, 4, 2},
		{0xfffffffc, 2, 0xfffffffe, 4, 1}, {0, 2, 0xfffffffe, 4, 2}, {0xfffffffe, 2, 0, 2, 1}, {0xfffffffe, 2, 0xfffffff0, 4, 0},
	} {
		if n := clock.Between(x.from, x.fromSize, x.to, x.toSize); n != x.want {
			t.Errorf("Between(%#x, %d, %#x, %d): %d, not %d", x.from, x.fromSize, x.to, x.toSize, n, x.want)
		}
	}
}

// P5.2: Between is what Fetch misses behind a Fetch, whatever the buffer had ahead of both.
func TestBetweenFetches(t *testing.T) {
	sizes := []uint32{2, 4}
	for from := uint32(0xffffffe0); from != 0x40; from++ {
		for to := uint32(0xffffffe0); to != 0x40; to++ {
			for _, fromSize := range sizes {
				for _, toSize := range sizes {
					want := clock.Between(from, fromSize, to, toSize)
					for _, b := range []clock.Buffer{{}, has(0), has(clock.Line(from)), has(clock.Line(to)), has(99)} {
						behind, _ := b.Fetch(from, int(fromSize))
						if _, n := behind.Fetch(to, int(toSize)); n != want {
							t.Fatalf("%v: Between(%#x, %d, %#x, %d): %d, not %d", b, from, fromSize, to, toSize, want, n)
						}
					}
				}
			}
		}
	}
}

// P5.2: Between with one wrong size, or two: 0.
func TestBetweenWrong(t *testing.T) {
	wrong := []uint32{0, 1, 3, 5, 6, 8, 16, 1<<8 + 2, 1<<16 + 4, 1<<31 + 2, 1<<31 + 4, math.MaxUint32 - 1, math.MaxUint32}
	for _, size := range wrong {
		for _, right := range []uint32{2, 4} {
			for _, to := range []uint32{0, 14, 32, 30, 0xfffffffe} {
				if n := clock.Between(16, size, to, right); n != 0 {
					t.Errorf("Between(16, %d, %d, %d): %d", size, to, right, n)
				}
				if n := clock.Between(16, right, to, size); n != 0 {
					t.Errorf("Between(16, %d, %d, %d): %d", right, to, size, n)
				}
			}
		}
		for _, other := range wrong {
			if n := clock.Between(16, size, 14, other); n != 0 {
				t.Errorf("Between(16, %d, 14, %d): %d", size, other, n)
			}
		}
	}
}
