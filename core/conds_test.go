package core_test

import (
	"fmt"
	"math"
	"testing"

	"remontoire/core"
	"remontoire/inst"
)

// conds has, for each condition, a bit for all flags of a number from 0 to 15 (see allFlags): whether it holds with them.
var conds = [...]uint32{
	0xF0F0, 0x0F0F, 0xCCCC, 0x3333, 0xFF00, 0x00FF, 0xAAAA, 0x5555,
	0x0C0C, 0xF3F3, 0xAA55, 0x55AA, 0x0A05, 0xF5FA,
}

// P7.2: each of the conditions with all flags.
func TestHolds(t *testing.T) {
	for cond, list := range conds {
		for n := range uint32(16) {
			want := list>>n&1 == 1
			if core.Holds(allFlags(core.State{}, n), cond) != want || core.Holds(allFlags(filled(), n), cond) != want {
				t.Errorf("the condition %d with the flags %04b: %t", cond, n, !want)
			}
		}
	}
}

// P7.2: no other number is a condition.
func TestHoldsNot(t *testing.T) {
	for _, cond := range []int{-1, 14, 15, 16, -2, -13, -14, -16, 28, 256, 1 << 32, -1 << 32, math.MinInt, math.MaxInt} {
		for n := range uint32(16) {
			if core.Holds(allFlags(core.State{}, n), cond) {
				t.Errorf("the condition %d holds with the flags %04b", cond, n)
			}
		}
	}
}

// P7.2: flags that are neither 0 nor 1 are taken as Set takes them.
func TestHoldsOfOtherFlags(t *testing.T) {
	c := machine(t, memory(t, nil, nil), 0, core.State{})
	given := [...]uint32{0, 1, 2, 5, math.MaxUint32}
	for n := range 5 * 5 * 5 * 5 {
		s := core.State{N: given[n%5], Z: given[n/5%5], C: given[n/25%5], V: given[n/125]}
		c.Set(s)
		for cond := range conds {
			if core.Holds(s, cond) != core.Holds(c.State(), cond) {
				t.Errorf("the condition %d of %+v", cond, s)
			}
		}
	}
}

// P7.2: branches with each condition and all flags, narrow and wide, go on elsewhere, or behind themselves.
func TestConditions(t *testing.T) {
	for cond, list := range conds {
		for n := range uint32(16) {
			for _, f := range []inst.Form{inst.Bcond, inst.BcondWide} {
				i := inst.Inst{Form: f, Cond: cond, Imm: 40}
				what := fmt.Sprintf("%+v with the flags %04b", i, n)
				s := allFlags(filled(), n)
				c := machine(t, memory(t, bytesOf(t, i), nil), 0, s)
				cycles, next := 1, uint32(flash+i.Bytes())
				if list>>n&1 == 1 {
					cycles, next = 3, flash+44
				}
				steps(t, what, c, core.Event{At: flash, Cycles: cycles, Misses: 1})
				stands(t, what, c, with(s, regs{15: next}), cycles, core.Halt{})
			}
		}
	}
}
