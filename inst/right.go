package inst

import (
	"remontoire/alu"
	"remontoire/imm"
)

const (
	lastLow  = 7
	lastAny  = 14
	stack    = 13
	link     = 14
	counter  = 15
	lastCond = 13
)

// A class of registers has a bit for each register that is in it.
// A field that a shape hasn't is 0: its class has the bit 0 alone.
const (
	unused    = 1
	lowClass  = 1<<(lastLow+1) - 1
	anyClass  = 1<<(lastAny+1) - 1
	wideClass = anyClass &^ (1 << stack)
	baseClass = anyClass
)

// Right tells whether an instruction may be.
func (i Inst) Right() bool {
	return i.Form.Is() &&
		i.registersRight() && i.pairRight() && i.immRight() && i.shiftRight() &&
		i.setRight() && i.condRight() && i.regsRight()
}

// registersRight tells whether each register is in the class that the shape gives it.
func (i Inst) registersRight() bool {
	switch i.Form.Shape() {
	case ShShift, ShTwo:
		return i.in(lowClass, unused, lowClass, unused)
	case ShThree:
		return i.in(lowClass, lowClass, lowClass, unused)
	case ShTiny, ShOff:
		return i.in(lowClass, lowClass, unused, unused)
	case ShByte, ShLit:
		return i.in(lowClass, unused, unused, unused)
	case ShHigh:
		return i.in(anyClass, unused, anyClass, unused)
	case ShBx:
		return i.in(unused, unused, anyClass, unused)
	case ShMovw, ShImmTo:
		return i.in(wideClass, unused, unused, unused)
	case ShImm, ShPlain:
		return i.in(wideClass, wideClass, unused, unused)
	case ShImmOf:
		return i.in(unused, wideClass, unused, unused)
	case ShBarrel, ShTurn, ShMul:
		return i.in(wideClass, wideClass, wideClass, unused)
	case ShBarrelTo, ShClz:
		return i.in(wideClass, unused, wideClass, unused)
	case ShBarrelOf:
		return i.in(unused, wideClass, wideClass, unused)
	case ShLoad:
		return i.in(wideClass, baseClass, unused, unused)
	case ShIndex:
		return i.in(wideClass, baseClass, wideClass, unused)
	case ShMla, ShMls, ShLong:
		return i.in(wideClass, wideClass, wideClass, wideClass)
	}
	return i.in(unused, unused, unused, unused)
}

// in tells whether Rd, Rn, Rm and Ra are in these classes.
func (i Inst) in(rd, rn, rm, ra uint32) bool {
	return has(rd, i.Rd) && has(rn, i.Rn) && has(rm, i.Rm) && has(ra, i.Ra)
}

func has(class uint32, r int) bool { return alu.Bit(class, r) == 1 }

// pairRight tells whether two registers may stand beside each other.
func (i Inst) pairRight() bool {
	if i.Form == CmpHigh {
		return !Low(i.Rd) || !Low(i.Rm)
	}
	if i.Form.Shape() == ShLong {
		return i.Rd != i.Ra
	}
	return true
}

// immRight tells whether Imm is as the shape says.
func (i Inst) immRight() bool {
	switch i.Form.Shape() {
	case ShShift:
		if i.Form == LslImm {
			return steps(i.Imm, 0, 31, 1)
		}
		return steps(i.Imm, 1, 32, 1)
	case ShTiny:
		return steps(i.Imm, 0, 7, 1)
	case ShByte, ShBkpt:
		return steps(i.Imm, 0, 255, 1)
	case ShLit:
		return steps(i.Imm, 0, 1020, 4)
	case ShOff:
		return steps(i.Imm, 0, 124, 4)
	case ShInc:
		return steps(i.Imm, 0, 508, 4)
	case ShCond:
		return steps(i.Imm, -256, 254, 2)
	case ShJump:
		return steps(i.Imm, -2048, 2046, 2)
	case ShMovw:
		return steps(i.Imm, 0, 65535, 1)
	case ShImm, ShImmTo, ShImmOf:
		return hasWord(i.Imm)
	case ShPlain, ShLoad:
		return steps(i.Imm, 0, 4095, 1)
	case ShCondWide:
		return steps(i.Imm, -1<<20, 1<<20-2, 2)
	case ShJumpWide:
		return steps(i.Imm, -1<<24, 1<<24-2, 2)
	}
	return i.Imm == 0
}

// hasWord tells whether a number has a word. The error's name would be api's, that has no part in this layer: OK is 0.
func hasWord(n int) bool {
	_, e := imm.Word(n)
	return e == 0
}

// steps tells whether n is from first to last, and a multiple of step.
func steps(n, first, last, step int) bool {
	return n >= first && n <= last && n%step == 0
}

// shiftRight tells whether Kind and By are as the shape says.
func (i Inst) shiftRight() bool {
	switch i.Form.Shape() {
	case ShBarrel, ShBarrelTo, ShBarrelOf:
		return i.barrelRight()
	case ShIndex:
		return i.Kind == 0 && steps(i.By, 0, 3, 1)
	}
	return i.Kind == 0 && i.By == 0
}

// barrelRight tells whether By is one that the shift of that kind can go.
func (i Inst) barrelRight() bool {
	switch i.Kind {
	case alu.LSL:
		return steps(i.By, 0, 31, 1)
	case alu.LSR, alu.ASR:
		return steps(i.By, 1, 32, 1)
	case alu.ROR:
		return steps(i.By, 1, 31, 1)
	}
	return false
}

// setRight tells whether Set is as the shape says.
func (i Inst) setRight() bool {
	switch i.Form.Shape() {
	case ShImm, ShImmTo, ShBarrel, ShBarrelTo, ShTurn:
		return i.Set == 0 || i.Set == 1
	}
	return i.Set == 0
}

// condRight tells whether Cond is as the shape says.
func (i Inst) condRight() bool {
	switch i.Form.Shape() {
	case ShCond, ShCondWide:
		return steps(i.Cond, 0, lastCond, 1)
	}
	return i.Cond == 0
}

// regsRight tells whether Regs is as the shape says.
func (i Inst) regsRight() bool {
	switch i.Form.Shape() {
	case ShPush:
		return someOf(i.Regs, lowClass|1<<link)
	case ShPop:
		return someOf(i.Regs, lowClass|1<<counter)
	}
	return i.Regs == 0
}

// someOf tells whether a list of registers has one at least, and none beside those that it may have.
func someOf(list, may int) bool { return list != 0 && list&^may == 0 }
