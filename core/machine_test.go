package core_test

import (
	"math"
	"testing"

	"remontoire/api"
	"remontoire/core"
	"remontoire/inst"
)

// The chapter's example: four cycles without wait states.
func TestExample(t *testing.T) {
	m := memory(t, bytesOf(t, inst.Inst{Form: inst.MovByte, Imm: 5}, inst.Inst{Form: inst.Bx, Rm: 14}), nil)
	c := machine(t, m, 0, filled())
	if e := c.Run(100, func(core.Event) {}); e != api.OK {
		t.Error(e)
	}
	stands(t, "the example", c, with(filled(), regs{0: 5, 15: flash + 4}), 4, core.Halt{Kind: core.Returned})
}

// The kinds of halts have the numbers that the chapter gives them.
func TestKinds(t *testing.T) {
	if got := [...]int{core.Running, core.Returned, core.Trapped, core.Faulted}; got != [...]int{0, 1, 2, 3} {
		t.Error(got)
	}
}

// P7.1: New at all wait states that there are, and at others.
func TestNew(t *testing.T) {
	m := memory(t, patterned(16), words{ram: 7})
	for wait := 0; wait <= api.MaxWait; wait++ {
		c, e := core.New(m, wait)
		if c == nil || e != api.OK {
			t.Fatalf("New with %d wait states: %v, %d", wait, c, e)
		}
		stands(t, "a new machine", c, core.State{}, 0, core.Halt{Kind: core.Running})
		if c.Mem() != m {
			t.Errorf("with %d wait states: another memory", wait)
		}
	}
	for _, wait := range []int{-1, api.MaxWait + 1, -2, 9, 256, -1 << 32, 1 << 32, math.MinInt, math.MaxInt} {
		if c, e := core.New(m, wait); c != nil || e != api.ErrRange {
			t.Errorf("New with %d wait states: %v, %d", wait, c, e)
		}
	}
}

// P7.1: Set with flags of all kinds: what is neither 0 nor 1 is 1.
func TestSet(t *testing.T) {
	c := machine(t, memory(t, nil, nil), 0, core.State{})
	of := []struct{ given, want uint32 }{{0, 0}, {1, 1}, {2, 1}, {5, 1}, {1 << 8, 1}, {1 << 16, 1}, {1 << 31, 1}, {math.MaxUint32, 1}}
	for _, f := range of {
		for _, other := range of {
			given, want := filled(), filled()
			given.N, given.Z, given.C, given.V = f.given, other.given, f.given, other.given
			want.N, want.Z, want.C, want.V = f.want, other.want, f.want, other.want
			c.Set(given)
			stands(t, "Set", c, want, 0, core.Halt{})
		}
	}
	// Registers are as they are given, be they aligned or not.
	odd := core.State{R: [16]uint32{13: 3, 14: 1, 15: math.MaxUint32}}
	c.Set(odd)
	stands(t, "Set of odd ones", c, odd, 0, core.Halt{})
}

// P7.1: what State told is the state of then: neither goes on with the other.
func TestStateIsNew(t *testing.T) {
	c := machine(t, memory(t, bytesOf(t, inst.Inst{Form: inst.MovByte, Imm: 5}), nil), 0, filled())
	told := c.State()
	told.R[0], told.N = 99, 1
	stands(t, "with what was told changed", c, filled(), 0, core.Halt{})
	told = c.State()
	c.Step()
	if told != filled() {
		t.Error("what was told has gone on", told)
	}
}

// P7.1: the memory is the one that was given, which the machine works on.
func TestMemIsGiven(t *testing.T) {
	load, store := inst.Inst{Form: inst.LdrOff, Rd: 1, Rn: 2}, inst.Inst{Form: inst.StrOff, Rd: 1, Rn: 3}
	m := memory(t, bytesOf(t, load, store), nil)
	c := machine(t, m, 0, with(filled(), regs{2: ram, 3: ram + 4}))
	m.Store(ram, 0xCAFE)
	c.Step()
	c.Step()
	if x, e := m.Load(ram + 4); x != 0xCAFE || e != api.OK || c.Mem() != m {
		t.Errorf("%#x, %d", x, e)
	}
}

// P7.1: Set changes the state alone: the counter goes on, the buffer stays, and what has halted has halted.
func TestSetKeepsTheRest(t *testing.T) {
	m := memory(t, bytesOf(t, inst.Inst{Form: inst.Nop}, inst.Inst{Form: inst.Bkpt, Imm: 9}), nil)
	c := machine(t, m, 3, filled())
	steps(t, "the first", c, core.Event{At: flash, Cycles: 1, Misses: 1})
	c.Set(filled())
	stands(t, "behind Set", c, filled(), 4, core.Halt{})
	steps(t, "again", c, core.Event{At: flash, Cycles: 1})
	steps(t, "the trap", c, core.Event{At: flash + 2, Cycles: 1})
	c.Set(filled())
	stands(t, "behind the trap", c, filled(), 6, core.Halt{Kind: core.Trapped, Code: 9})
	if v, e := c.Step(); v != (core.Event{}) || e != api.ErrHalted {
		t.Error(v, e)
	}
	stands(t, "behind a step that isn't", c, filled(), 6, core.Halt{Kind: core.Trapped, Code: 9})
}

// Two machines with one memory have nothing else in common.
func TestTwoMachines(t *testing.T) {
	m := memory(t, bytesOf(t, inst.Inst{Form: inst.AddByte, Imm: 1}), nil)
	one, other := machine(t, m, 1, core.State{R: [16]uint32{15: flash}}), machine(t, m, 2, core.State{R: [16]uint32{0: 7, 15: flash}})
	steps(t, "one", one, core.Event{At: flash, Cycles: 1, Misses: 1})
	stands(t, "the other one", other, core.State{R: [16]uint32{0: 7, 15: flash}}, 0, core.Halt{})
	steps(t, "the other one", other, core.Event{At: flash, Cycles: 1, Misses: 1})
	stands(t, "one", one, core.State{R: [16]uint32{0: 1, 15: flash + 2}}, 2, core.Halt{})
	stands(t, "the other one", other, core.State{R: [16]uint32{0: 8, 15: flash + 2}}, 3, core.Halt{})
}
