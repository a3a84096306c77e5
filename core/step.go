package core

import (
	"remontoire/api"
	"remontoire/clock"
	"remontoire/code"
	"remontoire/inst"
	"remontoire/mem"
)

const (
	halfBits  = 16
	halfBytes = 2
	// ahead is how far behind an instruction's address the counter is, where it is read.
	ahead = 4
)

// work is a step that is being done. It goes on with a copy of the state, so that a fault leaves the machine's own as it was.
type work struct {
	State
	memory *mem.Mem
	i      inst.Inst
	at     uint32
	halt   Halt
	data   uint32
	words  int
}

// step is what a step shows, or why it went wrong: nothing but the memory is changed then.
func (c *Machine) step() (Event, api.Errno) {
	at := c.state.R[counter]
	i, e := instAt(c.memory, at)
	if e != api.OK {
		return Event{}, e
	}
	w := work{State: c.state, memory: c.memory, i: i, at: at}
	w.R[counter] += uint32(i.Bytes())
	if e := w.execute(); e != api.OK {
		return Event{}, e
	}
	v := Event{At: at, Data: w.data, Words: w.words, Cycles: base(c.state, i)}
	c.buffer, v.Misses = c.buffer.Fetch(at, i.Bytes())
	c.cycles += v.Cycles + v.Misses*c.wait
	c.state, c.halt = w.State, w.halt
	return v, api.OK
}

// instAt is the instruction at an address.
func instAt(m *mem.Mem, at uint32) (inst.Inst, api.Errno) {
	first, e := m.Half(at)
	if e != api.OK {
		return inst.Inst{}, e
	}
	if !code.Begins(first) {
		return code.Of(first, false)
	}
	second, e := m.Half(at + halfBytes)
	if e != api.OK {
		return inst.Inst{}, e
	}
	return code.Of(first<<halfBits|second, true)
}

// base is how long an instruction takes in a state that it finds.
func base(s State, i inst.Inst) int {
	// An instruction that was read is right: there is no error.
	n, _ := clock.Base(i, Holds(s, i.Cond), s.R[i.Rn], s.R[i.Rm])
	return n
}
