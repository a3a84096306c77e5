package asm_test

import (
	"math"
	"slices"
	"testing"

	"remontoire/api"
	"remontoire/asm"
	"remontoire/inst"
)

// P8.1: labels that are marked twice, or aren't where a Jump has them.
func TestLabels(t *testing.T) {
	for what, l := range map[string][]asm.Item{
		"twice, one behind the other":    items(asm.Here(0), asm.Here(0)),
		"twice, far away":                joined(items(asm.Here(65535)), nops(100), items(asm.Here(3)), nops(100), items(asm.Here(65535))),
		"twice, with a Jump":             items(asm.Here(1), asm.Go(asm.Always, 1), asm.Here(1)),
		"not there":                      items(asm.Go(0, 0)),
		"not there, of several":          items(asm.Here(1), asm.Go(0, 1), asm.Go(1, 2), asm.Here(3), asm.Go(asm.Always, 3)),
		"not there, behind one 65535 on": items(asm.Here(0), asm.Go(asm.Always, 65535)),
		"both":                           items(asm.Here(1), asm.Go(0, 2), asm.Here(1)),
	} {
		refused(t, what, l, api.ErrLabel)
	}
	x := laid(t, items(asm.Here(5), asm.Go(0, 6), asm.Here(6)))
	if len(x.Bytes) != 2 {
		t.Errorf("a label that no Jump has: %x", x.Bytes)
	}
}

// P8.1: as many bytes as an image has, and a pair of them more.
func TestBig(t *testing.T) {
	for what, l := range map[string][]asm.Item{
		"narrow ones": nops(65536), "wide ones": wides(65536), "an Align to the end": joined(nops(65522), items(asm.Pad(16))),
		"an Align of none": joined(nops(65536), items(asm.Pad(16), asm.Here(1), asm.Pad(4))),
		"a narrow Jump":    joined(items(asm.Here(1)), nops(65534), items(asm.Here(2), asm.Go(0, 2))),
		"a wide Jump":      joined(items(asm.Here(1)), nops(65532), items(asm.Go(0, 1))),
	} {
		if x := laid(t, l); len(x.Bytes) != api.MaxImage {
			t.Errorf("%s: %d bytes", what, len(x.Bytes))
		}
		refused(t, what+", and a Nop", joined(l, nops(2)), api.ErrBig)
		refused(t, "a Nop, and "+what, joined(nops(2), l, nops(2)), api.ErrBig)
		refused(t, what+", twice", joined(l, nops(65536)), api.ErrBig)
		asModel(t, what, l)
	}
	refused(t, "a Jump that is made wide", joined(items(asm.Here(1)), nops(65534), items(asm.Go(0, 1))), api.ErrBig)
	refused(t, "an Align behind a Jump that is made wide", joined(items(asm.Here(1)), nops(65518), items(asm.Go(0, 1), asm.Pad(16), asm.Do(nop))), api.ErrBig)
	refused(t, "very many", nops(1<<20), api.ErrBig)
}

// P8.1: of two wrongs in one program, ErrForm goes first, then ErrLabel, then ErrBig, whichever stands first.
func TestOrder(t *testing.T) {
	form := items(asm.Pad(2))
	twice := items(asm.Here(3), asm.Here(3))
	none := items(asm.Go(0, 4))
	big := nops(65538)
	for what, x := range map[string]struct {
		a, b []asm.Item
		want api.Errno
	}{
		"form and twice": {form, twice, api.ErrForm}, "form and none": {form, none, api.ErrForm}, "form and big": {form, big, api.ErrForm},
		"twice and none": {twice, none, api.ErrLabel}, "twice and big": {twice, big, api.ErrLabel}, "none and big": {none, big, api.ErrLabel},
	} {
		refused(t, what, joined(x.a, x.b), x.want)
		refused(t, what+", the other way round", joined(x.b, x.a), x.want)
	}
	refused(t, "all", joined(big, none, twice, form), api.ErrForm)
	// Labels that may not be are of the wrong form, not missing ones.
	refused(t, "a label that may not be", items(asm.Go(0, -1)), api.ErrForm)
	refused(t, "one that may not be, twice", items(asm.Here(65536), asm.Here(65536)), api.ErrForm)
}

// P8.2: Label of labels that are there, and of others; of an l that was never laid, it ends.
func TestLabel(t *testing.T) {
	l := joined(nops(6), items(asm.Here(65535), asm.Here(4)), wides(8), items(asm.Pad(16), asm.Here(0), asm.Go(0, 4)), nops(2), items(asm.Here(9)))
	x := laid(t, l)
	for label, want := range map[int]int{65535: 6, 4: 6, 0: 16, 9: 20} {
		if at, ok := x.Label(l, label); at != want || !ok {
			t.Errorf("%d: %d, %t, not %d", label, at, ok, want)
		}
	}
	for _, label := range []int{1, 3, 5, 8, 10, 14, 16, 65534, -1, 65536, 1 << 32, 1<<32 + 4, 1<<16 + 4, math.MinInt, math.MaxInt} {
		unknown(t, x, l, label)
	}
	unknown(t, asm.Laid{}, nil, 0)
	unknown(t, asm.Laid{}, l, 4)
	unknown(t, x, nil, 4)
	unknown(t, x, l[:3], 65535)
	unknown(t, asm.Laid{At: x.At[:3]}, l, 65535)
	unknown(t, laid(t, nil), l, 0)
	unknown(t, laid(t, items(asm.Go(0, 4), asm.Here(4))), items(asm.Go(0, 3), asm.Go(0, 4)), 4)
}

func unknown(t *testing.T, x asm.Laid, l []asm.Item, label int) {
	t.Helper()
	if at, ok := x.Label(l, label); at != 0 || ok {
		t.Errorf("%d: %d, %t", label, at, ok)
	}
}

// What is handed in is neither changed nor kept, its spare room neither; what is told shares nothing.
func TestMemory(t *testing.T) {
	all := joined(items(asm.Go(0, 1)), nops(300), items(asm.Pad(16), asm.Here(1), asm.Do(inst.Inst{Form: inst.Bx, Rm: 14}), asm.Go(3, 9)), nops(40))
	l := all[:len(all)-20]
	l[len(l)-1] = asm.Here(9)
	kept := slices.Clone(all)
	one, other, want := laid(t, l), laid(t, l), laid(t, l)
	if !slices.Equal(all, kept) {
		t.Error("the items are changed")
	}
	spoil(one.Bytes)
	same(t, asm.Laid{Bytes: want.Bytes, At: one.At, Size: one.Size, Rounds: one.Rounds}, want)
	spoil(one.At)
	same(t, asm.Laid{Bytes: want.Bytes, At: want.At, Size: one.Size, Rounds: one.Rounds}, want)
	spoil(one.Size)
	same(t, other, want)
	clear(all)
	same(t, other, want)
	same(t, laid(t, kept[:len(l)]), want)
}

// spoil changes all of a list, its spare room too.
func spoil[N int | byte](l []N) {
	l = l[:cap(l)]
	for i := range l {
		l[i] ^= 0x55
	}
}

func same(t *testing.T, x, want asm.Laid) {
	t.Helper()
	if !slices.Equal(x.Bytes, want.Bytes) || !slices.Equal(x.At, want.At) || !slices.Equal(x.Size, want.Size) || x.Rounds != want.Rounds {
		t.Error("another program than it was")
	}
}
