package core_test

import (
	"fmt"
	"maps"
	"testing"

	"remontoire/api"
	"remontoire/core"
	"remontoire/inst"
)

// faults does a step that must go wrong: there is no event, nothing is counted, registers and flags are as they were.
func faults(t *testing.T, what string, c *core.Machine, code api.Errno, left words) {
	t.Helper()
	s, cycles := c.State(), c.Cycles()
	if v, e := c.Step(); v != (core.Event{}) || e != api.ErrForm {
		t.Errorf("%s: %+v, %d, not ErrForm alone", what, v, e)
	}
	h := core.Halt{Kind: core.Faulted, Code: int(code)}
	stands(t, what, c, s, cycles, h)
	if got := ramOf(c.Mem()); !maps.Equal(got, left) {
		t.Errorf("%s: RAM %#x, not %#x", what, got, left)
	}
	// What has halted stays so.
	if v, e := c.Step(); v != (core.Event{}) || e != api.ErrHalted {
		t.Errorf("%s: once more %+v, %d", what, v, e)
	}
	if e := c.Run(1<<20, func(core.Event) { t.Errorf("%s: an event", what) }); e != api.ErrForm {
		t.Errorf("%s: Run %d", what, e)
	}
	stands(t, what, c, s, cycles, h)
}

// P7.2: no instruction is at R[15].
func TestNoInstruction(t *testing.T) {
	wide := bytesOf(t, inst.Inst{Form: inst.Movw, Rd: 1, Imm: 7})
	nop := bytesOf(t, inst.Inst{Form: inst.Nop})
	odd := append(append([]byte{}, nop...), nop[0])
	for _, x := range []struct {
		flash []byte
		at    uint32
		code  api.Errno
	}{
		// Odd, in flash, at its end and in nothing.
		{nop, flash + 1, api.ErrAlign}, {wide, flash + 3, api.ErrAlign}, {nop, 1, api.ErrAlign}, {nil, 0xFFFFFFFF, api.ErrAlign}, {nop, ram + 1, api.ErrAlign},
		// In nothing, and in RAM, where no instructions are.
		{nop, 0, api.ErrUnmapped}, {nop, flash - 2, api.ErrUnmapped}, {nop, flash + 2, api.ErrUnmapped}, {nil, flash, api.ErrUnmapped},
		{nop, ram, api.ErrUnmapped}, {nop, ramEnd, api.ErrUnmapped}, {nop, 0xFFFFFFFE, api.ErrUnmapped},
		{make([]byte, api.MaxImage), flash + api.MaxImage, api.ErrUnmapped},
		// Half of it.
		{odd, flash + 2, api.ErrUnmapped}, {nop[:1], flash, api.ErrUnmapped},
		{wide[:2], flash, api.ErrUnmapped}, {wide[:3], flash, api.ErrUnmapped},
		{append(append([]byte{}, nop...), wide[:2]...), flash + 2, api.ErrUnmapped},
		// The second half isn't there, whatever the first one would begin.
		{[]byte{0x00, 0xE8}, flash, api.ErrUnmapped}, {[]byte{0xFF, 0xFF}, flash, api.ErrUnmapped},
		// No instruction: narrow ones, wide ones, and the second half of a wide one.
		{[]byte{0x00, 0xDE}, flash, api.ErrUndefined}, {[]byte{0x00, 0xDF}, flash, api.ErrUndefined}, {[]byte{0x00, 0xB4}, flash, api.ErrUndefined},
		{[]byte{0x00, 0xE8, 0x00, 0x00}, flash, api.ErrUndefined}, {[]byte{0xFF, 0xFF, 0xFF, 0xFF}, flash, api.ErrUndefined},
		{[]byte{0x40, 0xF2, 0x00, 0xDE}, flash + 2, api.ErrUndefined},
	} {
		for wait := 0; wait <= api.MaxWait; wait += 7 {
			c := machine(t, memory(t, x.flash, words{ram: 0xBF00BF00}), wait, flagged(with(filled(), regs{15: x.at}), "NC"))
			faults(t, fmt.Sprintf("at %#x of %x", x.at, x.flash), c, x.code, words{ram: 0xBF00BF00})
		}
	}
	// A new machine, that nobody has set, is where nothing is.
	c, _ := core.New(memory(t, nop, nil), 0)
	faults(t, "a new machine", c, api.ErrUnmapped, nil)
}

// at lets a load or a store of one word go to an address.
type at func(address uint32) (inst.Inst, regs)

// P7.2: loads and stores that tell each of the memory's errors.
func TestNoWord(t *testing.T) {
	for name, x := range map[string]struct {
		to     at
		stores bool
	}{
		"LdrReg": {func(a uint32) (inst.Inst, regs) {
			return inst.Inst{Form: inst.LdrReg, Rd: 1, Rn: 2, Rm: 3}, regs{2: a - 5, 3: 5}
		}, false},
		"LdrOff": {func(a uint32) (inst.Inst, regs) {
			return inst.Inst{Form: inst.LdrOff, Rd: 1, Rn: 2, Imm: 124}, regs{2: a - 124}
		}, false},
		"LdrSp": {func(a uint32) (inst.Inst, regs) { return inst.Inst{Form: inst.LdrSp, Rd: 1, Imm: 8}, regs{13: a - 8} }, false},
		"LdrWide": {func(a uint32) (inst.Inst, regs) {
			return inst.Inst{Form: inst.LdrWide, Rd: 9, Rn: 9, Imm: 7}, regs{9: a - 7}
		}, false},
		"LdrIndex": {func(a uint32) (inst.Inst, regs) {
			return inst.Inst{Form: inst.LdrIndex, Rd: 9, Rn: 9, Rm: 10, By: 3}, regs{9: a - 8, 10: 1}
		}, false},
		"StrReg": {func(a uint32) (inst.Inst, regs) {
			return inst.Inst{Form: inst.StrReg, Rd: 1, Rn: 2, Rm: 3}, regs{2: a - 5, 3: 5}
		}, true},
		"StrOff": {func(a uint32) (inst.Inst, regs) {
			return inst.Inst{Form: inst.StrOff, Rd: 1, Rn: 2, Imm: 124}, regs{2: a - 124}
		}, true},
		"StrSp": {func(a uint32) (inst.Inst, regs) { return inst.Inst{Form: inst.StrSp, Rd: 1, Imm: 8}, regs{13: a - 8} }, true},
		"StrWide": {func(a uint32) (inst.Inst, regs) {
			return inst.Inst{Form: inst.StrWide, Rd: 9, Rn: 9, Imm: 7}, regs{9: a - 7}
		}, true},
		"StrIndex": {func(a uint32) (inst.Inst, regs) {
			return inst.Inst{Form: inst.StrIndex, Rd: 9, Rn: 9, Rm: 10, By: 3}, regs{9: a - 8, 10: 1}
		}, true},
	} {
		for _, y := range []struct {
			address     uint32
			load, store api.Errno
		}{
			{ram + 1, api.ErrAlign, api.ErrAlign}, {ram + 2, api.ErrAlign, api.ErrAlign}, {ramEnd + 3, api.ErrAlign, api.ErrAlign}, {flash + 2, api.ErrAlign, api.ErrAlign}, {0xFFFFFFFF, api.ErrAlign, api.ErrAlign},
			{ram - 4, api.ErrUnmapped, api.ErrUnmapped}, {ramEnd, api.ErrUnmapped, api.ErrUnmapped}, {0, api.ErrUnmapped, api.ErrUnmapped}, {flash - 4, api.ErrUnmapped, api.ErrUnmapped}, {0xFFFFFFFC, api.ErrUnmapped, api.ErrUnmapped},
			{flash + 8, api.ErrUnmapped, api.ErrReadOnly}, {flash + api.MaxImage - 4, api.ErrUnmapped, api.ErrReadOnly}, {flash + api.MaxImage, api.ErrUnmapped, api.ErrUnmapped},
			{flash, api.OK, api.ErrReadOnly},
		} {
			i, in := x.to(y.address)
			code := y.load
			if x.stores {
				code = y.store
			}
			if code == api.OK {
				continue
			}
			l := append(bytesOf(t, i), patterned(8)...)[:8]
			c := machine(t, memory(t, l, words{ram: 7}), 3, flagged(with(filled(), in), "ZV"))
			faults(t, fmt.Sprintf("%s at %#x", name, y.address), c, code, words{ram: 7})
		}
	}
	// A literal behind the flash.
	c := machine(t, memory(t, bytesOf(t, inst.Inst{Form: inst.LdrLit, Rd: 1}), nil), 0, filled())
	faults(t, "LdrLit", c, api.ErrUnmapped, nil)
}

// P7.2: what was stored ahead of what goes wrong stays, and nothing that was loaded.
func TestNoStack(t *testing.T) {
	push, pop := inst.Inst{Form: inst.Push, Regs: 0x4003}, inst.Inst{Form: inst.Pop, Regs: 0x8003}
	for _, x := range []struct {
		i     inst.Inst
		stack uint32
		code  api.Errno
		left  words
	}{
		{push, ram, api.ErrUnmapped, words{}}, {push, ram + 8, api.ErrUnmapped, words{}},
		{push, ramEnd + 4, api.ErrUnmapped, words{ramEnd - 8: 10, ramEnd - 4: 11}},
		{push, ramEnd + 8, api.ErrUnmapped, words{ramEnd - 4: 10}},
		{push, ramEnd + 12, api.ErrUnmapped, words{}},
		{push, 0, api.ErrUnmapped, words{}}, {push, 4, api.ErrUnmapped, words{}},
		{push, ram + 101, api.ErrAlign, words{}}, {push, ram + 102, api.ErrAlign, words{}}, {push, ramEnd + 3, api.ErrAlign, words{}},
		{push, flash + 64, api.ErrReadOnly, words{}}, {push, flash + 12, api.ErrReadOnly, words{}}, {push, flash + api.MaxImage, api.ErrReadOnly, words{}},
		{push, flash, api.ErrUnmapped, words{}},
		{pop, ramEnd, api.ErrUnmapped, words{}}, {pop, ramEnd - 4, api.ErrUnmapped, words{}}, {pop, ramEnd - 8, api.ErrUnmapped, words{}},
		{pop, ram - 4, api.ErrUnmapped, words{}}, {pop, 0xFFFFFFFC, api.ErrUnmapped, words{}}, {pop, flash + 8, api.ErrUnmapped, words{}},
		{pop, ram + 1, api.ErrAlign, words{}}, {pop, ram + 2, api.ErrAlign, words{}}, {pop, flash + 2, api.ErrAlign, words{}},
	} {
		l := append(bytesOf(t, x.i), patterned(14)...)
		left := words{ram + 400: 1}
		maps.Copy(left, x.left)
		c := machine(t, memory(t, l, words{ram + 400: 1}), 5, flagged(with(filled(), regs{0: 10, 1: 11, 13: x.stack}), "NZCV"))
		faults(t, fmt.Sprintf("%+v at %#x", x.i, x.stack), c, x.code, left)
	}
}

// P7.2: a fault behind steps that went well: what they did and counted stays.
func TestFaultBehindSteps(t *testing.T) {
	list := []inst.Inst{{Form: inst.MovByte, Rd: 1, Imm: 9}, {Form: inst.StrOff, Rd: 1, Rn: 2}, {Form: inst.StrOff, Rd: 1, Rn: 3}}
	c := machine(t, memory(t, bytesOf(t, list...), nil), 2, with(filled(), regs{2: ram, 3: flash}))
	n := 0
	if e := c.Run(100, func(core.Event) { n++ }); e != api.ErrForm || n != 2 {
		t.Errorf("%d, %d events", e, n)
	}
	stands(t, "behind steps", c, with(filled(), regs{1: 9, 2: ram, 3: flash, 15: flash + 4}), 1+2+2, core.Halt{Kind: core.Faulted, Code: int(api.ErrReadOnly)})
	if got := ramOf(c.Mem()); !maps.Equal(got, words{ram: 9}) {
		t.Errorf("RAM %#x", got)
	}
	// With fuel for the steps that go well alone, it doesn't come to the fault.
	c = machine(t, memory(t, bytesOf(t, list...), nil), 2, with(filled(), regs{2: ram, 3: flash}))
	if e := c.Run(5, func(core.Event) {}); e != api.ErrFuel || c.Halt().Kind != core.Running {
		t.Error(e, c.Halt())
	}
}

// P7.2: a machine that has halted, in each way.
func TestHalted(t *testing.T) {
	for _, x := range []struct {
		i    inst.Inst
		want core.Halt
		run  api.Errno
	}{
		{inst.Inst{Form: inst.Bx, Rm: 14}, core.Halt{Kind: core.Returned}, api.OK},
		{inst.Inst{Form: inst.Bkpt, Imm: 2}, core.Halt{Kind: core.Trapped, Code: 2}, api.OK},
		{inst.Inst{Form: inst.Bkpt}, core.Halt{Kind: core.Trapped}, api.OK},
		{inst.Inst{Form: inst.StrOff}, core.Halt{Kind: core.Faulted, Code: int(api.ErrUnmapped)}, api.ErrForm},
	} {
		c := machine(t, memory(t, bytesOf(t, x.i, inst.Inst{Form: inst.Nop}), nil), 1, with(filled(), regs{0: 0}))
		if e := c.Run(100, func(core.Event) {}); e != x.run {
			t.Errorf("%+v: Run %d, not %d", x.i, e, x.run)
		}
		s, cycles := c.State(), c.Cycles()
		for _, fuel := range []int{-1, 0, 1, 1 << 40} {
			if v, e := c.Step(); v != (core.Event{}) || e != api.ErrHalted {
				t.Errorf("%+v: Step %+v, %d", x.i, v, e)
			}
			if e := c.Run(fuel, func(core.Event) { t.Errorf("%+v: an event", x.i) }); e != x.run {
				t.Errorf("%+v: Run(%d) %d, not %d", x.i, fuel, e, x.run)
			}
			stands(t, fmt.Sprintf("%+v", x.i), c, s, cycles, x.want)
		}
		// Set lets the state be another one, yet it has halted.
		c.Set(filled())
		if _, e := c.Step(); e != api.ErrHalted {
			t.Errorf("%+v behind Set: %d", x.i, e)
		}
		stands(t, fmt.Sprintf("%+v behind Set", x.i), c, filled(), cycles, x.want)
	}
}
