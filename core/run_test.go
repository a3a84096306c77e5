package core_test

import (
	"math"
	"slices"
	"testing"

	"remontoire/api"
	"remontoire/core"
	"remontoire/inst"
)

// counting counts from Imm down to 0, and adds what it counts to R[0]; as many rounds take three instructions each.
func counting(rounds int) []inst.Inst {
	return []inst.Inst{
		{Form: inst.MovByte, Rd: 1, Imm: rounds},
		{Form: inst.AddReg, Rd: 0, Rn: 0, Rm: 1},
		{Form: inst.SubByte, Rd: 1, Imm: 1},
		{Form: inst.Bcond, Cond: 1, Imm: -8},
		{Form: inst.Bx, Rm: 14},
	}
}

// ran runs a machine with much fuel, till it halts, and tells its events.
func ran(t *testing.T, c *core.Machine, want api.Errno) []core.Event {
	t.Helper()
	var list []core.Event
	if e := c.Run(1<<20, func(v core.Event) { list = append(list, v) }); e != want {
		t.Errorf("Run: %d, not %d", e, want)
	}
	return list
}

// started is a machine at some instructions that has no noughts but R[0].
func started(t *testing.T, wait int, list ...inst.Inst) *core.Machine {
	t.Helper()
	return machine(t, memory(t, bytesOf(t, list...), nil), wait, with(filled(), regs{0: 0}))
}

// P7.2: a run of rounds, with its events in their order.
func TestRounds(t *testing.T) {
	c := started(t, 0, counting(3)...)
	list := ran(t, c, api.OK)
	var want []core.Event
	for n, at := range []uint32{0, 2, 4, 6, 2, 4, 6, 2, 4, 6, 8} {
		v := core.Event{At: flash + at, Cycles: 1}
		if n == 0 {
			v.Misses = 1
		}
		if n == 3 || n == 6 || n == 10 {
			v.Cycles = 3
		}
		want = append(want, v)
	}
	if !slices.Equal(list, want) {
		t.Errorf("%+v, not %+v", list, want)
	}
	stands(t, "rounds", c, flagged(with(filled(), regs{0: 6, 1: 0, 15: flash + 10}), "ZC"), 1+3+3+2*3+1+3, core.Halt{Kind: core.Returned})
}

// P7.2: a run with literals, the stack and RAM: a function that is called, by its address, and comes back.
func TestCall(t *testing.T) {
	list := []inst.Inst{
		{Form: inst.Push, Regs: 0x4010},             // 0
		{Form: inst.LdrLit, Rd: 4, Imm: 16},         // 2: the word at 20
		{Form: inst.Movw, Rd: 14, Imm: 15},          // 4
		{Form: inst.Movt, Rd: 14, Imm: flash >> 16}, // 8: 14, and 1
		{Form: inst.B, Imm: 24 - 12 - 4},            // 12
		{Form: inst.StrIndex, Rd: 4, Rn: 5, Rm: 6},  // 14
		{Form: inst.Pop, Regs: 0x8010},              // 18
		{Form: inst.Bkpt, Imm: 0x78},                // 20: the literal's low half
		{Form: inst.Nop},                            // 22: its high half
		{Form: inst.AddShift, Rd: 4, Rn: 4, Rm: 4},  // 24
		{Form: inst.LdrOff, Rd: 7, Rn: 5, Imm: 4},   // 28
		{Form: inst.Udiv, Rd: 4, Rn: 4, Rm: 7},      // 30
		{Form: inst.Bx, Rm: 14},                     // 34
	}
	m := memory(t, bytesOf(t, list...), words{ram + 4: 2})
	s := with(filled(), regs{5: ram, 6: 8})
	c := machine(t, m, 0, s)
	events := ran(t, c, api.OK)
	// The literal is 0xBF00BE78; twice that wraps round.
	if x, _ := m.Load(ram + 8); x != 0x3F00BE78 {
		t.Errorf("%#x was stored", x)
	}
	var at []uint32
	for _, v := range events {
		at = append(at, v.At-flash)
	}
	if want := []uint32{0, 2, 4, 8, 12, 24, 28, 30, 34, 14, 18}; !slices.Equal(at, want) {
		t.Errorf("it went by %d, not by %d", at, want)
	}
	want := with(s, regs{7: 2, 14: flash + 15, 15: flash + 20})
	// 0x7E017CF0 by 2: 31 bits and 2 bits, so that 29 more are 7 cycles beside the three.
	stands(t, "the call", c, want, 3+2+1+1+3+1+2+(2+1+7)+3+2+5, core.Halt{Kind: core.Returned})
}

// P7.2: what is counted: with each wait state as many cycles more as there are misses.
func TestWaitStates(t *testing.T) {
	// A wide instruction lies over the border of two lines, rounds go over it.
	list := []inst.Inst{{Form: inst.MovByte, Rd: 1, Imm: 5}}
	for range 6 {
		list = append(list, inst.Inst{Form: inst.Nop})
	}
	list = append(list,
		inst.Inst{Form: inst.AddWide, Rd: 0, Rn: 0, Imm: 3}, // 14
		inst.Inst{Form: inst.SubByte, Rd: 1, Imm: 1},        // 18
		inst.Inst{Form: inst.Bcond, Cond: 1, Imm: -12},      // 20, to 12
		inst.Inst{Form: inst.Bx, Rm: 14},                    // 22
	)
	for wait := 0; wait <= api.MaxWait; wait++ {
		c := started(t, wait, list...)
		events := ran(t, c, api.OK)
		cycles, misses := 0, 0
		for _, v := range events {
			cycles += v.Cycles
			misses += v.Misses
		}
		// The first line, and each round the second; each round but the first one the first line again.
		if misses != 1+5+4 || cycles != 1+6+4*1+5*2+4*3+1+3 || c.Cycles() != cycles+wait*misses {
			t.Errorf("%d wait states: %d misses, %d and %d cycles", wait, misses, cycles, c.Cycles())
		}
		if c.State().R[0] != 15 {
			t.Error(c.State())
		}
	}
}

// P7.2: a buffer is empty at first, and has then the line of the half that was fetched last; loads have no part in it.
func TestBuffer(t *testing.T) {
	nop, wide := inst.Inst{Form: inst.Nop}, inst.Inst{Form: inst.Movw, Rd: 1}
	list := []inst.Inst{wide, wide, wide, nop, wide, nop, {Form: inst.LdrLit, Rd: 2, Imm: 28}, nop, {Form: inst.B, Imm: 32 - 24 - 4}}
	for len(bytesOf(t, list...)) < 32 {
		list = append(list, nop)
	}
	list = append(list, wide, wide, wide, wide, nop, nop, nop, nop)
	c := started(t, 1, list...)
	var got []int
	for range 14 {
		v, e := c.Step()
		if e != api.OK {
			t.Fatalf("%d, %+v", e, c.Halt())
		}
		got = append(got, v.Misses)
	}
	if want := []int{1, 0, 0, 0, 1, 0, 0, 0, 0, 1, 0, 0, 0, 1}; !slices.Equal(got, want) {
		t.Errorf("misses %d, not %d", got, want)
	}
	// A wide one at the last half of a line, with the buffer empty, misses twice.
	c = started(t, 7, list...)
	c.Set(with(c.State(), regs{15: flash + 14}))
	steps(t, "over the border", c, core.Event{At: flash + 14, Cycles: 1, Misses: 2})
	if c.Cycles() != 15 {
		t.Errorf("%d cycles", c.Cycles())
	}
}

// P7.2: fuel is held against the counter ahead of each step.
func TestFuel(t *testing.T) {
	// A counter of 0, 1, 2, 3, 6, 7, 8, 9, and 12 when it has halted.
	list := counting(2)
	for _, x := range []struct {
		fuel   int
		want   api.Errno
		events int
		cycles int
	}{
		{math.MinInt, api.ErrFuel, 0, 0}, {-1, api.ErrFuel, 0, 0}, {0, api.ErrFuel, 0, 0},
		{1, api.ErrFuel, 1, 1}, {2, api.ErrFuel, 2, 2}, {3, api.ErrFuel, 3, 3}, {4, api.ErrFuel, 4, 6}, {5, api.ErrFuel, 4, 6}, {6, api.ErrFuel, 4, 6},
		{7, api.ErrFuel, 5, 7}, {8, api.ErrFuel, 6, 8}, {9, api.ErrFuel, 7, 9},
		{10, api.OK, 8, 12}, {11, api.OK, 8, 12}, {12, api.OK, 8, 12}, {13, api.OK, 8, 12}, {math.MaxInt, api.OK, 8, 12},
	} {
		c := started(t, 0, list...)
		n := 0
		if e := c.Run(x.fuel, func(core.Event) { n++ }); e != x.want || n != x.events || c.Cycles() != x.cycles {
			t.Errorf("Run(%d): %d, %d events, %d cycles, not %+v", x.fuel, e, n, c.Cycles(), x)
		}
		if kind := c.Halt().Kind; (kind == core.Running) != (x.want == api.ErrFuel) {
			t.Errorf("Run(%d): the kind %d", x.fuel, kind)
		}
	}
}

// P7.2: wait states count for fuel as the base does.
func TestFuelAndWaitStates(t *testing.T) {
	for _, x := range []struct {
		fuel int
		want api.Errno
	}{{0, api.ErrFuel}, {1, api.ErrFuel}, {8, api.ErrFuel}, {9, api.OK}} {
		c := started(t, 7, inst.Inst{Form: inst.Nop}, inst.Inst{Form: inst.Bx, Rm: 14})
		if e := c.Run(x.fuel, func(core.Event) {}); e != x.want {
			t.Errorf("Run(%d): %d, not %d", x.fuel, e, x.want)
		}
	}
}

// P7.2: a run that had no fuel left goes on with more; the counter goes on too.
func TestFuelAgain(t *testing.T) {
	c := started(t, 0, counting(2)...)
	whole := ran(t, started(t, 0, counting(2)...), api.OK)
	var list []core.Event
	take := func(v core.Event) { list = append(list, v) }
	for _, x := range []struct {
		fuel int
		want api.Errno
	}{{3, api.ErrFuel}, {3, api.ErrFuel}, {-5, api.ErrFuel}, {7, api.ErrFuel}, {100, api.OK}, {100, api.OK}, {0, api.OK}, {-1, api.OK}} {
		if e := c.Run(x.fuel, take); e != x.want {
			t.Errorf("Run(%d): %d, not %d", x.fuel, e, x.want)
		}
	}
	if !slices.Equal(list, whole) {
		t.Errorf("%+v, not %+v", list, whole)
	}
}

// P7.2: what goes on without an end stops when there is no fuel left.
func TestFuelWithoutEnd(t *testing.T) {
	c := started(t, 0, inst.Inst{Form: inst.B, Imm: -4})
	if e := c.Run(3000, func(core.Event) {}); e != api.ErrFuel || c.Cycles() != 3000 {
		t.Error(e, c.Cycles())
	}
	if e := c.Run(3001, func(core.Event) {}); e != api.ErrFuel || c.Cycles() != 3003 {
		t.Error(e, c.Cycles())
	}
	stands(t, "without an end", c, with(filled(), regs{0: 0}), 3003, core.Halt{})
}

// P7.2: a machine that runs and one that steps do the same.
func TestRunIsSteps(t *testing.T) {
	one, other := started(t, 2, counting(9)...), started(t, 2, counting(9)...)
	list := ran(t, one, api.OK)
	for _, v := range list {
		steps(t, "step by step", other, v)
	}
	stands(t, "step by step", other, one.State(), one.Cycles(), one.Halt())
}

// P1: nobody needs to take the events.
func TestRunForNobody(t *testing.T) {
	c := started(t, 0, counting(2)...)
	if e := c.Run(100, nil); e != api.OK || c.State().R[0] != 3 || c.Cycles() != 12 {
		t.Error(e, c.State(), c.Cycles())
	}
}
