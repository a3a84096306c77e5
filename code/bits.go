package code

import (
	"remontoire/alu"
	"remontoire/inst"
)

// cut are the bits of x from high down to low.
func cut(x uint32, high, low int) uint32 { return x >> low & (1<<(high-low+1) - 1) }

// fieldBits are what a right instruction's fields add to its form's bits.
func fieldBits(i inst.Inst) uint32 {
	if i.Form.Wide() {
		return wideBits(i)
	}
	return narrowBits(i)
}

func narrowBits(i inst.Inst) uint32 {
	rd, rn, rm := uint32(i.Rd), uint32(i.Rn), uint32(i.Rm)
	imm, cond, regs := uint32(i.Imm), uint32(i.Cond), uint32(i.Regs)
	switch i.Form.Shape() {
	case inst.ShShift:
		return cut(imm, 4, 0)<<6 | rm<<3 | rd
	case inst.ShThree:
		return rm<<6 | rn<<3 | rd
	case inst.ShTiny:
		return imm<<6 | rn<<3 | rd
	case inst.ShByte:
		return rd<<8 | imm
	case inst.ShTwo:
		return rm<<3 | rd
	case inst.ShHigh:
		return alu.Bit(rd, 3)<<7 | rm<<3 | cut(rd, 2, 0)
	case inst.ShBx:
		return rm << 3
	case inst.ShLit:
		return rd<<8 | imm/4
	case inst.ShOff:
		return imm/4<<6 | rn<<3 | rd
	case inst.ShInc:
		return imm / 4
	case inst.ShPush:
		return alu.Bit(regs, 14)<<8 | cut(regs, 7, 0)
	case inst.ShPop:
		return alu.Bit(regs, 15)<<8 | cut(regs, 7, 0)
	case inst.ShBkpt:
		return imm
	case inst.ShCond:
		return cond<<8 | cut(imm, 8, 1)
	case inst.ShJump:
		return cut(imm, 11, 1)
	}
	return 0
}

func wideBits(i inst.Inst) uint32 {
	rd, rn, rm, ra := uint32(i.Rd), uint32(i.Rn), uint32(i.Rm), uint32(i.Ra)
	imm, by, set := uint32(i.Imm), uint32(i.By), uint32(i.Set)
	switch i.Form.Shape() {
	case inst.ShMovw:
		return cut(imm, 15, 12)<<16 | rd<<8 | twelveBits(imm)
	case inst.ShImm, inst.ShImmTo, inst.ShImmOf, inst.ShPlain:
		return set<<20 | rn<<16 | rd<<8 | twelveBits(imm)
	case inst.ShBarrel, inst.ShBarrelTo, inst.ShBarrelOf:
		return set<<20 | rn<<16 | cut(by, 4, 2)<<12 | rd<<8 | cut(by, 1, 0)<<6 | uint32(i.Kind)<<4 | rm
	case inst.ShLoad:
		return rn<<16 | rd<<12 | imm
	case inst.ShIndex:
		return rn<<16 | rd<<12 | by<<4 | rm
	case inst.ShTurn, inst.ShMul, inst.ShMla, inst.ShMls:
		return set<<20 | rn<<16 | ra<<12 | rd<<8 | rm
	case inst.ShLong:
		return rn<<16 | rd<<12 | ra<<8 | rm
	case inst.ShClz:
		return rm<<16 | rd<<8 | rm
	case inst.ShCondWide:
		return condWideBits(imm) | uint32(i.Cond)<<22
	case inst.ShJumpWide:
		return jumpWideBits(imm)
	}
	return 0
}

// twelveBits are the low twelve bits of a number, in the three places where wide instructions have them.
func twelveBits(imm uint32) uint32 {
	return alu.Bit(imm, 11)<<26 | cut(imm, 10, 8)<<12 | cut(imm, 7, 0)
}

func condWideBits(imm uint32) uint32 {
	return alu.Bit(imm, 20)<<26 | cut(imm, 17, 12)<<16 | alu.Bit(imm, 18)<<13 | alu.Bit(imm, 19)<<11 | cut(imm, 11, 1)
}

func jumpWideBits(imm uint32) uint32 {
	sign := alu.Bit(imm, 24)
	return sign<<26 | cut(imm, 21, 12)<<16 | same(alu.Bit(imm, 23), sign)<<13 | same(alu.Bit(imm, 22), sign)<<11 | cut(imm, 11, 1)
}

// same is 1 if two bits are alike, else 0. Of what it tells and one of both it tells the other one, so that it reads what it wrote.
func same(one, other uint32) uint32 { return one ^ other ^ 1 }
