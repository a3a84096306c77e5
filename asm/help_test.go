package asm_test

import (
	"slices"
	"testing"

	"remontoire/api"
	"remontoire/asm"
	"remontoire/code"
	"remontoire/inst"
)

var (
	nop  = inst.Inst{Form: inst.Nop}
	wide = inst.Inst{Form: inst.AddWide, Rd: 1, Rn: 2, Imm: 3}
)

// joined are lists of items, one behind the other.
func joined(lists ...[]asm.Item) []asm.Item { return slices.Concat(lists...) }

func items(l ...asm.Item) []asm.Item { return l }

// nops are so many bytes of Nops.
func nops(bytes int) []asm.Item { return slices.Repeat(items(asm.Do(nop)), bytes/2) }

// wides are so many bytes of wide instructions.
func wides(bytes int) []asm.Item { return slices.Repeat(items(asm.Do(wide)), bytes/4) }

// laid is Lay, where it must answer OK.
func laid(t *testing.T, l []asm.Item) asm.Laid {
	t.Helper()
	x, e := asm.Lay(l)
	if e != api.OK {
		t.Fatalf("Lay of %d items: %d", len(l), e)
	}
	return x
}

// refused holds Lay's error against the one that must come, and that nothing is beside it.
func refused(t *testing.T, what string, l []asm.Item, want api.Errno) {
	t.Helper()
	x, e := asm.Lay(l)
	if e != want {
		t.Errorf("%s: %d, not %d", what, e, want)
	}
	if len(x.Bytes) != 0 || len(x.At) != 0 || len(x.Size) != 0 || x.Rounds != 0 {
		t.Errorf("%s: %d bytes, %d and %d items, %d rounds beside %d", what, len(x.Bytes), len(x.At), len(x.Size), x.Rounds, e)
	}
}

// bytesOf are instructions, one behind the other.
func bytesOf(t *testing.T, list ...inst.Inst) []byte {
	t.Helper()
	var l []byte
	for _, i := range list {
		b, e := code.Bytes(i)
		if e != api.OK {
			t.Fatalf("%+v isn't right", i)
		}
		l = append(l, b...)
	}
	return l
}

// at is the instruction that stands where an item does.
func at(t *testing.T, x asm.Laid, item int) inst.Inst {
	t.Helper()
	i, e := code.At(x.Bytes, x.At[item])
	if e != api.OK {
		t.Fatalf("at %d, where the item %d stands: %d", x.At[item], item, e)
	}
	return i
}

// dice tells numbers that look as if they were any, always the same ones.
type dice uint64

func (d *dice) below(n int) int {
	*d = *d*6364136223846793005 + 1442695040888963407
	return int(uint64(*d) >> 33 % uint64(n))
}
