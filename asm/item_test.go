package asm_test

import (
	"math"
	"testing"

	"remontoire/api"
	"remontoire/asm"
	"remontoire/inst"
)

// numbers are ordinary ones, those beside each edge, and far ones.
var numbers = []int{math.MinInt, -1 << 32, -65536, -3, -2, -1, 0, 1, 2, 3, 4, 5, 6, 7, 8, 9, 12, 13, 14, 15, 16, 17, 20, 32, 64, 65534, 65535, 65536, 65537, 1 << 31, 1 << 32, 1<<32 + 1, 1<<32 + 4, math.MaxInt}

// standing holds Right against what must come, and Lay, that must refuse just what isn't right.
func standing(t *testing.T, x asm.Item, want bool) {
	t.Helper()
	if got := x.Right(); got != want {
		t.Errorf("%+v: right %t, not %t", x, got, want)
	}
	if !want {
		refused(t, "an item that isn't right", items(x), api.ErrForm)
		refused(t, "one behind others", items(asm.Here(3), asm.Do(nop), x), api.ErrForm)
	}
}

// P8.2: Do, Go, Here and Pad, whatever they are handed, are items with just that.
func TestMade(t *testing.T) {
	for _, i := range []inst.Inst{{}, nop, wide, {Form: inst.B, Imm: -6}, {Form: 101, Regs: 7}} {
		if got, want := asm.Do(i), (asm.Item{Kind: 1, Inst: i}); got != want {
			t.Errorf("Do: %+v, not %+v", got, want)
		}
	}
	for _, n := range numbers {
		for _, cond := range numbers {
			if got, want := asm.Go(cond, n), (asm.Item{Kind: 2, Cond: cond, Label: n}); got != want {
				t.Errorf("Go: %+v, not %+v", got, want)
			}
		}
		if got, want := asm.Here(n), (asm.Item{Kind: 3, Label: n}); got != want {
			t.Errorf("Here: %+v, not %+v", got, want)
		}
		if got, want := asm.Pad(n), (asm.Item{Kind: 4, To: n}); got != want {
			t.Errorf("Pad: %+v, not %+v", got, want)
		}
	}
}

// The constants are numbers of the chapter.
func TestConstants(t *testing.T) {
	if got := [...]int{asm.Code, asm.Jump, asm.Mark, asm.Align, asm.Always}; got != [...]int{1, 2, 3, 4, -1} {
		t.Error(got)
	}
}

// P8.1: a Jump has a Cond from 0 to 13, or Always, and a Label from 0 to 65535; a Mark has such a Label.
func TestNumbersOfLabels(t *testing.T) {
	for _, n := range numbers {
		label := n >= 0 && n <= 65535
		standing(t, asm.Here(n), label)
		for _, cond := range numbers {
			standing(t, asm.Go(cond, n), label && cond >= -1 && cond <= 13)
		}
	}
	for cond := -1; cond <= 13; cond++ {
		standing(t, asm.Go(cond, 5), true)
	}
}

// P8.1: Align goes to 4, 8 and 16.
func TestNumbersOfAligns(t *testing.T) {
	for n := -40; n <= 40; n++ {
		standing(t, asm.Pad(n), n == 4 || n == 8 || n == 16)
	}
	for _, n := range numbers {
		standing(t, asm.Pad(n), n == 4 || n == 8 || n == 16)
	}
}

// P8.1: Code has a right instruction that is no branch, but may be a Bx.
func TestInstructions(t *testing.T) {
	for _, x := range []struct {
		i    inst.Inst
		want bool
	}{
		{nop, true}, {wide, true},
		{inst.Inst{Form: inst.AddReg, Rd: 1, Rn: 2, Rm: 3}, true}, {inst.Inst{Form: inst.AddReg, Rd: 8, Rn: 2, Rm: 3}, false},
		{inst.Inst{Form: inst.Bx, Rm: 14}, true}, {inst.Inst{Form: inst.Bx}, true}, {inst.Inst{Form: inst.Bx, Rm: 15}, false}, {inst.Inst{Form: inst.Bx, Rm: 14, Imm: 2}, false},
		{inst.Inst{Form: inst.B}, false}, {inst.Inst{Form: inst.B, Imm: 8}, false}, {inst.Inst{Form: inst.Bcond, Cond: 3}, false}, {inst.Inst{Form: inst.BcondWide}, false}, {inst.Inst{Form: inst.BWide, Imm: -4}, false},
		{inst.Inst{Form: inst.Pop, Regs: 1 << 15}, true}, {inst.Inst{Form: inst.Pop}, false}, {inst.Inst{Form: inst.Push, Regs: 1 << 15}, false},
		{inst.Inst{Form: inst.Bkpt, Imm: 255}, true}, {inst.Inst{Form: inst.Bkpt, Imm: 256}, false}, {inst.Inst{Form: inst.Bkpt, Imm: -1}, false},
		{inst.Inst{Form: inst.LdrLit, Rd: 7, Imm: 1020}, true}, {inst.Inst{Form: inst.LdrLit, Rd: 7, Imm: 1022}, false},
		{inst.Inst{Form: inst.Nop, Cond: 1}, false}, {inst.Inst{Form: inst.Nop, Regs: 1}, false},
		{inst.Inst{}, false}, {inst.Inst{Form: -1}, false}, {inst.Inst{Form: 101}, false}, {inst.Inst{Form: math.MaxInt}, false}, {inst.Inst{Form: 1<<32 + inst.Nop}, false},
	} {
		standing(t, asm.Do(x.i), x.want)
	}
}

// P8.1: Kinds that there aren't.
func TestKinds(t *testing.T) {
	standing(t, asm.Item{}, false)
	for _, kind := range append([]int{0, 5, -4}, numbers...) {
		if kind >= 1 && kind <= 4 {
			continue
		}
		for _, x := range []asm.Item{{}, asm.Do(nop), asm.Go(0, 3), asm.Go(asm.Always, 0), asm.Here(3), asm.Pad(4)} {
			x.Kind = kind
			standing(t, x, false)
		}
	}
}

// P8.1: no field is set that the Kind doesn't have; nor is one that it has handed on to another Kind.
func TestOtherFields(t *testing.T) {
	for _, x := range []asm.Item{asm.Do(nop), asm.Go(0, 3), asm.Go(asm.Always, 0), asm.Go(13, 65535), asm.Here(0), asm.Here(3), asm.Pad(4)} {
		standing(t, x, true)
		for _, n := range numbers {
			if n == 0 {
				continue
			}
			standing(t, with(x, func(y *asm.Item) { y.Cond = n }), x.Kind == asm.Jump && n >= -1 && n <= 13)
			standing(t, with(x, func(y *asm.Item) { y.Label = n }), (x.Kind == asm.Jump || x.Kind == asm.Mark) && n >= 0 && n <= 65535)
			standing(t, with(x, func(y *asm.Item) { y.To = n }), x.Kind == asm.Align && (n == 4 || n == 8 || n == 16))
			standing(t, with(x, func(y *asm.Item) { y.Inst.Imm = n }), false)
			standing(t, with(x, func(y *asm.Item) { y.Inst.Cond = n }), false)
		}
		standing(t, with(x, func(y *asm.Item) { y.Inst = wide }), x.Kind == asm.Code)
		standing(t, with(x, func(y *asm.Item) { y.Inst = inst.Inst{Form: inst.B} }), false)
		standing(t, with(x, func(y *asm.Item) { y.Inst.Rm = 1 }), false)
	}
}

// with is an item that is changed.
func with(x asm.Item, change func(*asm.Item)) asm.Item {
	change(&x)
	return x
}
