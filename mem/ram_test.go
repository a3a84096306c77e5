package mem_test

import (
	"math"
	"slices"
	"testing"

	"remontoire/api"
	"remontoire/mem"
)

// at is a word of RAM with its address.
type at struct{ address, word uint32 }

// first are the first words that Ram tells, at most n.
func first(m *mem.Mem, n int) []at {
	var l []at
	if n == 0 {
		return l
	}
	for address, x := range m.Ram() {
		l = append(l, at{address, x})
		if len(l) == n {
			break
		}
	}
	return l
}

// has holds all words that Ram tells against those that must come.
func has(t *testing.T, m *mem.Mem, want ...at) {
	t.Helper()
	if got := first(m, -1); !slices.Equal(got, want) {
		t.Errorf("Ram: %#x, not %#x", got, want)
	}
}

// P6.2: Flash tells the flash's bytes, of every length.
func TestFlash(t *testing.T) {
	for _, n := range flashLengths {
		if got := memory(t, flashOf(n)).Flash(); !slices.Equal(got, flashOf(n)) {
			t.Errorf("of %d bytes: %d", n, len(got))
		}
	}
	if got := memory(t, []byte{0, 0, 7, 0}).Flash(); !slices.Equal(got, []byte{0, 0, 7, 0}) {
		t.Errorf("noughts: %v", got)
	}
}

// overwrite sets all of a list, its spare room too.
func overwrite(l []byte) {
	l = l[:cap(l)]
	for i := range l {
		l[i] = 0xee
	}
}

// P6.2: what Flash tells is new memory: what is done with it is seen neither by the memory, nor in another answer.
func TestFlashIsNew(t *testing.T) {
	m := memory(t, flashOf(9))
	one, other := m.Flash(), m.Flash()
	overwrite(one)
	if !slices.Equal(other, flashOf(9)) {
		t.Errorf("the other answer: %v", other)
	}
	if got := m.Flash(); !slices.Equal(got, flashOf(9)) {
		t.Errorf("the flash: %v", got)
	}
	loads(t, m, api.FlashBase, 0x04030201, api.OK)
	halves(t, m, api.FlashBase+6, 0x0807, api.OK)
}

// P6.2: a copy is the same, in flash and RAM.
func TestCopy(t *testing.T) {
	for _, n := range []int{0, 7, api.MaxImage} {
		m := memory(t, flashOf(n))
		stores(t, m, ramEnd-4, 2, api.OK)
		stores(t, m, api.RamBase, 1, api.OK)
		c := m.Copy()
		if c == nil || c == m {
			t.Fatalf("the copy is %p, of %p", c, m)
		}
		if !slices.Equal(c.Flash(), flashOf(n)) {
			t.Errorf("the copy's flash: %d bytes, not %d", len(c.Flash()), n)
		}
		has(t, c, at{api.RamBase, 1}, at{ramEnd - 4, 2})
		loads(t, c, ramEnd-4, 2, api.OK)
		loads(t, c, api.RamBase+4, 0, api.OK)
		for _, address := range around(n) {
			x, e := m.Load(address)
			loads(t, c, address, x, e)
			x, e = m.Half(address)
			halves(t, c, address, x, e)
		}
		stores(t, c, api.FlashBase, 1, api.ErrReadOnly)
		stores(t, c, ramEnd, 1, api.ErrUnmapped)
		stores(t, c, ramEnd-3, 1, api.ErrAlign)
	}
}

// P6.2: what is stored to one of both, after the copy, isn't in the other; a copy of a copy likewise.
func TestCopyIsApart(t *testing.T) {
	m := memory(t, flashOf(4))
	stores(t, m, api.RamBase, 1, api.OK)
	stores(t, m, api.RamBase+8, 2, api.OK)
	c := m.Copy()
	d := c.Copy()
	stores(t, m, api.RamBase, 3, api.OK)
	stores(t, m, api.RamBase+4, 4, api.OK)
	has(t, c, at{api.RamBase, 1}, at{api.RamBase + 8, 2})
	stores(t, c, api.RamBase+8, 0, api.OK)
	stores(t, c, ramEnd-4, 5, api.OK)
	has(t, m, at{api.RamBase, 3}, at{api.RamBase + 4, 4}, at{api.RamBase + 8, 2})
	has(t, c, at{api.RamBase, 1}, at{ramEnd - 4, 5})
	has(t, d, at{api.RamBase, 1}, at{api.RamBase + 8, 2})
	stores(t, d, api.RamBase, 0, api.OK)
	has(t, c, at{api.RamBase, 1}, at{ramEnd - 4, 5})
	overwrite(c.Flash())
	if !slices.Equal(m.Flash(), flashOf(4)) || !slices.Equal(d.Flash(), flashOf(4)) {
		t.Errorf("the flashes: %v, %v", m.Flash(), d.Flash())
	}
}

// P6.2: a new memory has no words that aren't 0, nor has one with nothing but noughts stored; the flash's words aren't RAM's.
func TestRamOfNew(t *testing.T) {
	m := memory(t, flashOf(64))
	has(t, m)
	has(t, m.Copy())
	stores(t, m, api.RamBase, 0, api.OK)
	stores(t, m, ramEnd-4, 0, api.OK)
	has(t, m)
	has(t, memory(t, nil))
}

// P6.2: words come rising, in whatever order they were stored; those overwritten with 0 don't.
func TestRam(t *testing.T) {
	m := memory(t, nil)
	for i, address := range []uint32{api.RamBase + 400, ramEnd - 4, api.RamBase + 4, api.RamBase, api.RamBase + 0x8000, api.RamBase + 8} {
		stores(t, m, address, uint32(i)+1, api.OK)
	}
	has(t, m, at{api.RamBase, 4}, at{api.RamBase + 4, 3}, at{api.RamBase + 8, 6}, at{api.RamBase + 400, 1}, at{api.RamBase + 0x8000, 5}, at{ramEnd - 4, 2})
	stores(t, m, api.RamBase, 0, api.OK)
	stores(t, m, api.RamBase+400, 0, api.OK)
	stores(t, m, api.RamBase+8, math.MaxUint32, api.OK)
	stores(t, m, ramEnd-4, 1<<31, api.OK)
	has(t, m, at{api.RamBase + 4, 3}, at{api.RamBase + 8, math.MaxUint32}, at{api.RamBase + 0x8000, 5}, at{ramEnd - 4, 1 << 31})
	stores(t, m, api.RamBase, 7, api.OK)
	for _, address := range []uint32{api.RamBase + 4, api.RamBase + 8, api.RamBase + 0x8000, ramEnd - 4} {
		stores(t, m, address, 0, api.OK)
	}
	has(t, m, at{api.RamBase, 7})
}

// P6.2: words with one bit or one byte set come as well.
func TestRamOfFewBits(t *testing.T) {
	m := memory(t, nil)
	var want []at
	for i := range uint32(32) {
		stores(t, m, api.RamBase+4*i, 1<<i, api.OK)
		want = append(want, at{api.RamBase + 4*i, 1 << i})
	}
	has(t, m, want...)
}

// P6.2: all words of RAM, where none is 0.
func TestWholeRamComes(t *testing.T) {
	m := memory(t, nil)
	var want []at
	for i := range uint32(api.RamBytes / 4) {
		address := api.RamBase + 4*(api.RamBytes/4-1-i)
		stores(t, m, address, address+1, api.OK)
		want = append(want, at{address, address + 1})
	}
	slices.Reverse(want)
	has(t, m, want...)
}

// P6.2: they come as far as they are asked, and from the first one on when they are asked again.
func TestRamAsAsked(t *testing.T) {
	m := memory(t, nil)
	want := []at{{api.RamBase + 4, 1}, {api.RamBase + 12, 2}, {api.RamBase + 16, 3}, {ramEnd - 4, 4}}
	for _, x := range want {
		stores(t, m, x.address, x.word, api.OK)
	}
	words := m.Ram()
	for n := range len(want) + 1 {
		if got := first(m, n); !slices.Equal(got, want[:n]) {
			t.Errorf("asked for %d: %#x", n, got)
		}
		asked := 0
		words(func(uint32, uint32) bool {
			asked++
			return asked < n
		})
		if asked != max(n, 1) {
			t.Errorf("asked for %d: %d came", n, asked)
		}
	}
	has(t, m, want...)
}

// P6.2: that they are told changes nothing.
func TestRamChangesNothing(t *testing.T) {
	m := memory(t, flashOf(5))
	stores(t, m, api.RamBase+4, 1, api.OK)
	has(t, m, at{api.RamBase + 4, 1})
	has(t, m, at{api.RamBase + 4, 1})
	loads(t, m, api.RamBase+4, 1, api.OK)
	if !slices.Equal(m.Flash(), flashOf(5)) {
		t.Errorf("the flash is %v", m.Flash())
	}
}
