package core_test

import (
	"maps"
	"strings"
	"testing"

	"remontoire/api"
	"remontoire/code"
	"remontoire/core"
	"remontoire/inst"
	"remontoire/mem"
)

const (
	flash  = api.FlashBase
	ram    = api.RamBase
	ramEnd = api.RamBase + api.RamBytes
	back   = api.HaltAt | 1
)

// regs are some registers, by their numbers.
type regs map[int]uint32

// words are some words of RAM, by their addresses.
type words map[uint32]uint32

// bytesOf are instructions, one behind the other.
func bytesOf(t *testing.T, list ...inst.Inst) []byte {
	t.Helper()
	var l []byte
	for _, i := range list {
		b, e := code.Bytes(i)
		if e != api.OK {
			t.Fatalf("%+v isn't right", i)
		}
		l = append(l, b...)
	}
	return l
}

// patterned are so many bytes of which the word at any multiple of 4 tells where it is.
func patterned(n int) []byte {
	l := make([]byte, n)
	for i := range l {
		l[i] = byte(i + 1)
	}
	return l
}

// memory is a memory with a flash and some words of RAM.
func memory(t *testing.T, bytes []byte, list words) *mem.Mem {
	t.Helper()
	m, e := mem.New(bytes)
	if e != api.OK {
		t.Fatalf("a flash of %d bytes: %d", len(bytes), e)
	}
	for address, word := range list {
		if e := m.Store(address, word); e != api.OK {
			t.Fatalf("Store(%#x): %d", address, e)
		}
	}
	return m
}

// machine is a machine in a state.
func machine(t *testing.T, m *mem.Mem, wait int, s core.State) *core.Machine {
	t.Helper()
	c, e := core.New(m, wait)
	if c == nil || e != api.OK {
		t.Fatalf("New with %d wait states: %d", wait, e)
	}
	c.Set(s)
	return c
}

// filled is a state in which no two registers are alike, at the flash's first byte.
func filled() core.State {
	var s core.State
	for r := range s.R {
		s.R[r] = 0x41000000 + 0x10101*uint32(r)
	}
	s.R[13], s.R[14], s.R[15] = ram+256, back, flash
	return s
}

// with is a state with some other registers.
func with(s core.State, list regs) core.State {
	for r, x := range list {
		s.R[r] = x
	}
	return s
}

// flagged is a state with those flags alone whose letters are in a text.
func flagged(s core.State, letters string) core.State {
	bit := func(letter string) uint32 { return uint32(strings.Count(letters, letter)) }
	s.N, s.Z, s.C, s.V = bit("N"), bit("Z"), bit("C"), bit("V")
	return s
}

// allFlags is a state with the flags of a number from 0 to 15: N is its highest bit.
func allFlags(s core.State, n uint32) core.State {
	s.N, s.Z, s.C, s.V = n>>3&1, n>>2&1, n>>1&1, n&1
	return s
}

// ramOf are all words of RAM that aren't 0.
func ramOf(m *mem.Mem) words { return maps.Collect(m.Ram()) }

// stands holds all that a machine tells of itself against what must be.
func stands(t *testing.T, what string, c *core.Machine, s core.State, cycles int, h core.Halt) {
	t.Helper()
	if got := c.State(); got != s {
		t.Errorf("%s: the state\n%#x, not\n%#x", what, got, s)
	}
	if c.Cycles() != cycles {
		t.Errorf("%s: %d cycles, not %d", what, c.Cycles(), cycles)
	}
	if c.Halt() != h {
		t.Errorf("%s: halt %+v, not %+v", what, c.Halt(), h)
	}
}

// steps does a step that must be OK, and holds its event against what must come.
func steps(t *testing.T, what string, c *core.Machine, want core.Event) {
	t.Helper()
	if v, e := c.Step(); v != want || e != api.OK {
		t.Errorf("%s: the event\n%+v, %d, not\n%+v", what, v, e, want)
	}
}

// dice tells numbers that look as if they were any, always the same ones.
type dice uint64

func (d *dice) below(n int) int {
	*d = *d*6364136223846793005 + 1442695040888963407
	return int(uint64(*d) >> 33 % uint64(n))
}

// word tells a word, every other one of them at an edge.
func (d *dice) word() uint32 {
	edges := [...]uint32{0, 1, 2, 31, 32, 33, 255, 256, 1<<31 - 1, 1 << 31, 1<<31 + 1, 1<<32 - 2, 1<<32 - 1}
	if d.below(2) == 0 {
		return edges[d.below(len(edges))]
	}
	return uint32(d.below(1<<16))<<16 | uint32(d.below(1<<16))
}
