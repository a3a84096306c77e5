package clock

import (
	"math/bits"

	"remontoire/alu"
	"remontoire/inst"
)

const (
	oneCycle     = 1
	branchCycles = 3
	memoryCycles = 2
	addingCycles = 2 // of a product with a sum or a difference
	divideCycles = 2 // of a quotient that takes no steps

	counter       = 15 // the program counter's bit in a list of registers
	counterCycles = 2  // of Pop, more than for any other register
	bitsAStep     = 4  // how many bits of a quotient one more cycle tells
)

// base is how long a right instruction takes.
func base(i inst.Inst, taken bool, a, b uint32) int {
	switch i.Form {
	case inst.Bcond, inst.BcondWide:
		return condCycles(taken)
	case inst.B, inst.BWide, inst.Bx:
		return branchCycles
	case inst.LdrLit, inst.LdrReg, inst.LdrOff, inst.LdrSp, inst.LdrWide, inst.LdrIndex,
		inst.StrReg, inst.StrOff, inst.StrSp, inst.StrWide, inst.StrIndex:
		return memoryCycles
	case inst.Push, inst.Pop:
		return listCycles(uint32(i.Regs))
	case inst.Mla, inst.Mls:
		return addingCycles
	case inst.Udiv:
		return Div(a, b)
	}
	return oneCycle
}

// condCycles is how long a branch with a condition takes.
func condCycles(taken bool) int {
	if taken {
		return branchCycles
	}
	return oneCycle
}

// listCycles is how long it takes to push or pop registers. A right Push hasn't the counter: just Pop takes longer for it.
func listCycles(regs uint32) int {
	return oneCycle + bits.OnesCount32(regs) + counterCycles*int(alu.Bit(regs, counter))
}

// Div is how long it takes to divide.
func Div(a, b uint32) int {
	more := alu.Len(a) - alu.Len(b)
	if b == 0 || more < 0 {
		return divideCycles
	}
	return divideCycles + 1 + more/bitsAStep
}
