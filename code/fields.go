package code

import (
	"remontoire/alu"
	"remontoire/inst"
)

// withFields is an instruction whose fields are read from bits without those of its form.
// Of a right instruction's bits it is that one again; of others it is any, right or not.
func withFields(f inst.Form, x uint32) inst.Inst {
	if f.Wide() {
		return wideFields(f, x)
	}
	return narrowFields(f, x)
}

func narrowFields(f inst.Form, x uint32) inst.Inst {
	switch f.Shape() {
	case inst.ShShift:
		return inst.Inst{Form: f, Rd: field(x, 2, 0), Rm: field(x, 5, 3), Imm: far(field(x, 10, 6), f == inst.LslImm)}
	case inst.ShThree:
		return inst.Inst{Form: f, Rd: field(x, 2, 0), Rn: field(x, 5, 3), Rm: field(x, 8, 6)}
	case inst.ShTiny:
		return inst.Inst{Form: f, Rd: field(x, 2, 0), Rn: field(x, 5, 3), Imm: field(x, 8, 6)}
	case inst.ShByte:
		return inst.Inst{Form: f, Rd: field(x, 10, 8), Imm: field(x, 7, 0)}
	case inst.ShTwo:
		return inst.Inst{Form: f, Rd: field(x, 2, 0), Rm: field(x, 5, 3)}
	case inst.ShHigh:
		return inst.Inst{Form: f, Rd: field(x, 7, 7)<<3 | field(x, 2, 0), Rm: field(x, 6, 3)}
	case inst.ShBx:
		return inst.Inst{Form: f, Rm: field(x, 6, 3)}
	case inst.ShLit:
		return inst.Inst{Form: f, Rd: field(x, 10, 8), Imm: field(x, 7, 0) * 4}
	case inst.ShOff:
		return inst.Inst{Form: f, Rd: field(x, 2, 0), Rn: field(x, 5, 3), Imm: field(x, 10, 6) * 4}
	case inst.ShInc:
		return inst.Inst{Form: f, Imm: field(x, 6, 0) * 4}
	case inst.ShPush:
		return inst.Inst{Form: f, Regs: field(x, 8, 8)<<14 | field(x, 7, 0)}
	case inst.ShPop:
		return inst.Inst{Form: f, Regs: field(x, 8, 8)<<15 | field(x, 7, 0)}
	case inst.ShBkpt:
		return inst.Inst{Form: f, Imm: field(x, 7, 0)}
	case inst.ShCond:
		return inst.Inst{Form: f, Cond: field(x, 11, 8), Imm: signed(cut(x, 7, 0)<<1, 8)}
	case inst.ShJump:
		return inst.Inst{Form: f, Imm: signed(cut(x, 10, 0)<<1, 11)}
	}
	return inst.Inst{Form: f}
}

func wideFields(f inst.Form, x uint32) inst.Inst {
	set, rn, rm := field(x, 20, 20), field(x, 19, 16), field(x, 3, 0)
	upper, lower := field(x, 15, 12), field(x, 11, 8)
	switch f.Shape() {
	case inst.ShMovw:
		return inst.Inst{Form: f, Rd: lower, Imm: field(x, 19, 16)<<12 | ofTwelve(x)}
	case inst.ShImm, inst.ShImmTo, inst.ShImmOf, inst.ShPlain:
		return inst.Inst{Form: f, Set: set, Rn: rn, Rd: lower, Imm: ofTwelve(x)}
	case inst.ShBarrel, inst.ShBarrelTo, inst.ShBarrelOf:
		kind, by := field(x, 5, 4), field(x, 14, 12)<<2|field(x, 7, 6)
		return inst.Inst{Form: f, Set: set, Rn: rn, Rd: lower, Rm: rm, Kind: kind, By: far(by, kind == alu.LSL)}
	case inst.ShLoad:
		return inst.Inst{Form: f, Rn: rn, Rd: upper, Imm: field(x, 11, 0)}
	case inst.ShIndex:
		return inst.Inst{Form: f, Rn: rn, Rd: upper, By: field(x, 5, 4), Rm: rm}
	case inst.ShTurn, inst.ShMul, inst.ShMla, inst.ShMls:
		return inst.Inst{Form: f, Set: set, Rn: rn, Ra: upper, Rd: lower, Rm: rm}
	case inst.ShLong:
		return inst.Inst{Form: f, Rn: rn, Rd: upper, Ra: lower, Rm: rm}
	case inst.ShClz:
		return inst.Inst{Form: f, Rd: lower, Rm: rm}
	case inst.ShCondWide:
		return inst.Inst{Form: f, Cond: field(x, 25, 22), Imm: ofCondWide(x)}
	case inst.ShJumpWide:
		return inst.Inst{Form: f, Imm: ofJumpWide(x)}
	}
	return inst.Inst{Form: f}
}

// field are the bits of x from high down to low, as a field has them.
func field(x uint32, high, low int) int { return int(cut(x, high, low)) }

// far is how far a shift goes that is written as n: of those that can't go by nought, 0 stands for 32.
// (ROR, that can go by neither, is right with neither.)
func far(n int, nought bool) int {
	if n == 0 && !nought {
		return 32
	}
	return n
}

// signed is a number in two's complement whose highest bit is the bit sign.
func signed(x uint32, sign int) int { return int(x) - int(alu.Bit(x, sign))<<(sign+1) }

func ofTwelve(x uint32) int {
	return field(x, 26, 26)<<11 | field(x, 14, 12)<<8 | field(x, 7, 0)
}

func ofCondWide(x uint32) int {
	return signed(alu.Bit(x, 26)<<20|alu.Bit(x, 11)<<19|alu.Bit(x, 13)<<18|cut(x, 21, 16)<<12|cut(x, 10, 0)<<1, 20)
}

func ofJumpWide(x uint32) int {
	sign := alu.Bit(x, 26)
	return signed(sign<<24|same(alu.Bit(x, 13), sign)<<23|same(alu.Bit(x, 11), sign)<<22|cut(x, 25, 16)<<12|cut(x, 10, 0)<<1, 24)
}
