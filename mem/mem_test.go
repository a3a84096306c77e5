package mem_test

import (
	"math"
	"slices"
	"testing"

	"remontoire/api"
	"remontoire/mem"
)

const (
	flashEnd = api.FlashBase + api.MaxImage
	ramEnd   = api.RamBase + api.RamBytes
)

// flashOf is a flash of so many bytes, none of which is 0, and of which neighbours are unlike.
func flashOf(n int) []byte {
	l := make([]byte, n)
	for i := range l {
		l[i] = byte(1 + i%251)
	}
	return l
}

// memory is New, where it must answer OK.
func memory(t *testing.T, flash []byte) *mem.Mem {
	t.Helper()
	m, e := mem.New(flash)
	if m == nil || e != api.OK {
		t.Fatalf("New of %d bytes: %v, %d", len(flash), m, e)
	}
	return m
}

// loads asks for a word, and holds it and its error against what must come.
func loads(t *testing.T, m *mem.Mem, address, word uint32, want api.Errno) {
	t.Helper()
	if x, e := m.Load(address); x != word || e != want {
		t.Errorf("Load(%#x): %#x, %d, not %#x, %d", address, x, e, word, want)
	}
}

// stores lets a word be somewhere, and holds the error against what must come.
func stores(t *testing.T, m *mem.Mem, address, word uint32, want api.Errno) {
	t.Helper()
	if e := m.Store(address, word); e != want {
		t.Errorf("Store(%#x, %#x): %d, not %d", address, word, e, want)
	}
}

// halves asks for a half, and holds it and its error against what must come.
func halves(t *testing.T, m *mem.Mem, address, half uint32, want api.Errno) {
	t.Helper()
	if x, e := m.Half(address); x != half || e != want {
		t.Errorf("Half(%#x): %#x, %d, not %#x, %d", address, x, e, half, want)
	}
}

// P6.1: the chapter's examples.
func TestExamples(t *testing.T) {
	m := memory(t, []byte{1, 2, 3, 4})
	loads(t, m, api.RamBase, 0, api.OK)
	stores(t, m, api.FlashBase, 1, api.ErrReadOnly)
	loads(t, m, api.FlashBase, 0x04030201, api.OK)
}

// P6.1: New at no bytes, at the limit and past it.
func TestNew(t *testing.T) {
	for _, flash := range [][]byte{nil, {}, flashOf(1), flashOf(api.MaxImage - 1), flashOf(api.MaxImage), flashOf(2 * api.MaxImage)[:api.MaxImage]} {
		if got := memory(t, flash).Flash(); !slices.Equal(got, flash) {
			t.Errorf("New of %d bytes: a flash of %d", len(flash), len(got))
		}
	}
	for _, n := range []int{api.MaxImage + 1, api.MaxImage + 2, 2 * api.MaxImage, 1 << 20} {
		if m, e := mem.New(make([]byte, n)); m != nil || e != api.ErrBig {
			t.Errorf("New of %d bytes: %v, %d", n, m, e)
		}
	}
}

// P6.1: what is handed in to New is neither changed nor kept, its spare room neither.
func TestNewKeepsNothing(t *testing.T) {
	all := flashOf(16)
	m := memory(t, all[:8])
	stores(t, m, api.RamBase, math.MaxUint32, api.OK)
	if !slices.Equal(all, flashOf(16)) {
		t.Errorf("the flash that was handed in is %v", all)
	}
	clear(all)
	if got := m.Flash(); !slices.Equal(got, flashOf(8)) {
		t.Errorf("the flash is %v", got)
	}
	loads(t, m, api.FlashBase, 0x04030201, api.OK)
	loads(t, m, api.FlashBase+8, 0, api.ErrUnmapped)
	halves(t, m, api.FlashBase+8, 0, api.ErrUnmapped)
}

// flashLengths are lengths of every rest by 4, none, few, and at the limit.
var flashLengths = []int{0, 1, 2, 3, 4, 5, 6, 7, 8, 9, 10, 11, 12, api.MaxImage - 4, api.MaxImage - 3, api.MaxImage - 2, api.MaxImage - 1, api.MaxImage}

// around are all addresses from 9 ahead of the flash's first byte and of the byte behind its last one, up to 9 behind these.
func around(length int) []uint32 {
	var l []uint32
	for _, middle := range []uint32{api.FlashBase, api.FlashBase + uint32(length)} {
		for i := range uint32(19) {
			l = append(l, middle+i-9)
		}
	}
	return l
}

// expected says, byte by byte, what a read of so many bytes of a flash tells.
func expected(flash []byte, address, size uint32) (uint32, api.Errno) {
	if address%size != 0 {
		return 0, api.ErrAlign
	}
	x := uint32(0)
	for i := size; i > 0; i-- {
		at := int(address) + int(i) - 1 - api.FlashBase
		if at < 0 || at >= len(flash) {
			return 0, api.ErrUnmapped
		}
		x = 256*x + uint32(flash[at])
	}
	return x, api.OK
}

// P6.1: words and halves of flashes of every rest by 4, at all addresses around both ends: an incomplete last word, or half, isn't there.
func TestEndsOfFlash(t *testing.T) {
	for _, n := range flashLengths {
		flash := flashOf(n)
		m := memory(t, flash)
		for _, address := range around(n) {
			x, e := expected(flash, address, 4)
			loads(t, m, address, x, e)
			x, e = expected(flash, address, 2)
			halves(t, m, address, x, e)
		}
	}
}

// P6.1: the ends of flashes, written out: the lowest byte comes first.
func TestBytesOfFlash(t *testing.T) {
	m := memory(t, []byte{0x80, 0, 0, 0x81, 0xff, 0xfe, 0x7f})
	loads(t, m, api.FlashBase, 0x81000080, api.OK)
	loads(t, m, api.FlashBase+4, 0, api.ErrUnmapped)
	halves(t, m, api.FlashBase, 0x0080, api.OK)
	halves(t, m, api.FlashBase+2, 0x8100, api.OK)
	halves(t, m, api.FlashBase+4, 0xfeff, api.OK)
	halves(t, m, api.FlashBase+6, 0, api.ErrUnmapped)
	m = memory(t, []byte{0, 0, 0, 0, 0xff, 0xff, 0xff, 0xff, 0x12, 0x34})
	loads(t, m, api.FlashBase, 0, api.OK)
	loads(t, m, api.FlashBase+4, math.MaxUint32, api.OK)
	loads(t, m, api.FlashBase+8, 0, api.ErrUnmapped)
	halves(t, m, api.FlashBase+8, 0x3412, api.OK)
	halves(t, m, api.FlashBase+10, 0, api.ErrUnmapped)
}

// P6.1: all words and halves of a flash at the limit.
func TestWholeFlash(t *testing.T) {
	flash := flashOf(api.MaxImage)
	m := memory(t, flash)
	for address := uint32(api.FlashBase); address < flashEnd; address += 4 {
		x, e := expected(flash, address, 4)
		loads(t, m, address, x, e)
		halves(t, m, address, x&0xffff, e)
		halves(t, m, address+2, x>>16, e)
	}
	loads(t, m, flashEnd, 0, api.ErrUnmapped)
	halves(t, m, flashEnd, 0, api.ErrUnmapped)
}

// nowhere are multiples of 4 at which neither flash nor RAM is, nor an image may be.
var nowhere = []uint32{0, 4, api.FlashBase - 8, api.FlashBase - 4, flashEnd, flashEnd + 4, 0x10000000, api.RamBase - 8, api.RamBase - 4, ramEnd, ramEnd + 4, 1 << 31, 0x88000000, 0xA0000000, 0xE0000000, api.HaltAt - 2, math.MaxUint32 - 3}

// P6.1: where nothing is: ErrUnmapped, and 0 beside it; at addresses that aren't aligned, ErrAlign goes first.
func TestNowhere(t *testing.T) {
	for _, n := range []int{0, 7, api.MaxImage} {
		m := memory(t, flashOf(n))
		for _, address := range nowhere {
			loads(t, m, address, 0, api.ErrUnmapped)
			stores(t, m, address, 1, api.ErrUnmapped)
			halves(t, m, address, 0, api.ErrUnmapped)
			halves(t, m, address+2, 0, api.ErrUnmapped)
			notAligned(t, m, address)
		}
		untouched(t, m, n)
	}
}

// notAligned asks at the three addresses behind a multiple of 4, and at the odd ones for halves.
func notAligned(t *testing.T, m *mem.Mem, address uint32) {
	t.Helper()
	for _, by := range []uint32{1, 2, 3} {
		loads(t, m, address+by, 0, api.ErrAlign)
		stores(t, m, address+by, 1, api.ErrAlign)
	}
	halves(t, m, address+1, 0, api.ErrAlign)
	halves(t, m, address+3, 0, api.ErrAlign)
}

// untouched tells of a memory that is no longer as New told it.
func untouched(t *testing.T, m *mem.Mem, length int) {
	t.Helper()
	if !slices.Equal(m.Flash(), flashOf(length)) {
		t.Errorf("the flash is %v", m.Flash())
	}
	for address, x := range m.Ram() {
		t.Errorf("%#x is at %#x", x, address)
	}
}

// P6.1: addresses that aren't aligned, where something is: within the flash, at its last bytes, behind them, and in RAM.
func TestNotAligned(t *testing.T) {
	for _, n := range []int{0, 7, 8, api.MaxImage} {
		m := memory(t, flashOf(n))
		for _, address := range []uint32{api.FlashBase, api.FlashBase + 4, api.FlashBase + 8, flashEnd - 4, api.RamBase, api.RamBase + 4, ramEnd - 8, ramEnd - 4} {
			notAligned(t, m, address)
		}
		untouched(t, m, n)
	}
}

// P6.1: a store to where an image may be: ErrReadOnly, be the flash that long or not; nothing is changed.
func TestReadOnly(t *testing.T) {
	for _, n := range []int{0, 3, 7, 8, api.MaxImage - 1, api.MaxImage} {
		m := memory(t, flashOf(n))
		for _, address := range []uint32{api.FlashBase, api.FlashBase + 4, api.FlashBase + 8, api.FlashBase + 12, api.FlashBase + api.MaxImage/2, flashEnd - 8, flashEnd - 4} {
			for _, x := range []uint32{0, 1, math.MaxUint32} {
				stores(t, m, address, x, api.ErrReadOnly)
			}
		}
		stores(t, m, api.FlashBase-4, 1, api.ErrUnmapped)
		stores(t, m, flashEnd, 1, api.ErrUnmapped)
		untouched(t, m, n)
	}
}

// P6.1: RAM is noughts at first, at both ends and between them.
func TestNewRam(t *testing.T) {
	m := memory(t, flashOf(api.MaxImage))
	for address := uint32(api.RamBase); address < ramEnd; address += 4 {
		loads(t, m, address, 0, api.OK)
	}
}

// P6.1: words stored and loaded again, at both ends of RAM, overwritten, also with 0; the words beside them stay.
func TestStore(t *testing.T) {
	m := memory(t, nil)
	for _, address := range []uint32{api.RamBase, api.RamBase + 4, api.RamBase + api.RamBytes/2, ramEnd - 8, ramEnd - 4} {
		for _, x := range []uint32{1, 0x11223344, math.MaxUint32, 0, 1 << 31, 0} {
			stores(t, m, address, x, api.OK)
			loads(t, m, address, x, api.OK)
		}
	}
	stores(t, m, api.RamBase+12, 0x89abcdef, api.OK)
	stores(t, m, api.RamBase+8, 0x01234567, api.OK)
	stores(t, m, api.RamBase+16, 0xfedcba98, api.OK)
	loads(t, m, api.RamBase+4, 0, api.OK)
	loads(t, m, api.RamBase+8, 0x01234567, api.OK)
	loads(t, m, api.RamBase+12, 0x89abcdef, api.OK)
	loads(t, m, api.RamBase+16, 0xfedcba98, api.OK)
	loads(t, m, api.RamBase+20, 0, api.OK)
}

// P6.1: each word of RAM has its own place.
func TestWholeRam(t *testing.T) {
	m := memory(t, flashOf(8))
	for address := uint32(api.RamBase); address < ramEnd; address += 4 {
		stores(t, m, address, ^address, api.OK)
	}
	for address := uint32(api.RamBase); address < ramEnd; address += 4 {
		loads(t, m, address, ^address, api.OK)
	}
	loads(t, m, api.FlashBase+4, 0x08070605, api.OK)
}

// P6.1: a refused store leaves words that were there.
func TestRefusedStore(t *testing.T) {
	m := memory(t, flashOf(4))
	stores(t, m, api.RamBase, 5, api.OK)
	stores(t, m, ramEnd-4, 6, api.OK)
	for _, address := range []uint32{api.RamBase + 1, api.RamBase + 2, api.RamBase + 3, ramEnd - 3, ramEnd - 1} {
		stores(t, m, address, 9, api.ErrAlign)
	}
	stores(t, m, api.RamBase-4, 9, api.ErrUnmapped)
	stores(t, m, ramEnd, 9, api.ErrUnmapped)
	stores(t, m, api.FlashBase, 9, api.ErrReadOnly)
	loads(t, m, api.RamBase, 5, api.OK)
	loads(t, m, ramEnd-4, 6, api.OK)
	loads(t, m, api.RamBase+4, 0, api.OK)
	loads(t, m, api.FlashBase, 0x04030201, api.OK)
}

// P6.1: RAM has no halves, be something stored there or not.
func TestHalfOfRam(t *testing.T) {
	m := memory(t, flashOf(api.MaxImage))
	for _, address := range []uint32{api.RamBase, ramEnd - 4} {
		halves(t, m, address, 0, api.ErrUnmapped)
		stores(t, m, address, math.MaxUint32, api.OK)
		halves(t, m, address, 0, api.ErrUnmapped)
		halves(t, m, address+2, 0, api.ErrUnmapped)
		halves(t, m, address+1, 0, api.ErrAlign)
		halves(t, m, address+3, 0, api.ErrAlign)
	}
}
