package inst

// The forms' words, shapes and bits are three tables and not one of rows, so that a call reaches no more than it asks for.

// formShapes are the forms' shapes.
var formShapes = [...]Shape{
	LslImm: ShShift, LsrImm: ShShift, AsrImm: ShShift,
	AddReg: ShThree, SubReg: ShThree, AddTiny: ShTiny, SubTiny: ShTiny,
	MovByte: ShByte, CmpByte: ShByte, AddByte: ShByte, SubByte: ShByte,
	And: ShTwo, Eor: ShTwo, Lsl: ShTwo, Lsr: ShTwo, Asr: ShTwo, Adc: ShTwo,
	Sbc: ShTwo, Ror: ShTwo, Tst: ShTwo, Rsb: ShTwo, Cmp: ShTwo, Cmn: ShTwo,
	Orr: ShTwo, Muls: ShTwo, Bic: ShTwo, Mvn: ShTwo,
	AddHigh: ShHigh, CmpHigh: ShHigh, MovHigh: ShHigh, Bx: ShBx,
	LdrLit: ShLit, StrReg: ShThree, LdrReg: ShThree, StrOff: ShOff, LdrOff: ShOff,
	StrSp: ShLit, LdrSp: ShLit, AddSp: ShLit, IncSp: ShInc, DecSp: ShInc,
	Push: ShPush, Pop: ShPop, Nop: ShNone, Bkpt: ShBkpt,
	Bcond: ShCond, B: ShJump,
	Movw: ShMovw, Movt: ShMovw,
	AndImm: ShImm, BicImm: ShImm, OrrImm: ShImm, OrnImm: ShImm, EorImm: ShImm, AddImm: ShImm,
	AdcImm: ShImm, SbcImm: ShImm, SubImm: ShImm, RsbImm: ShImm,
	MovImm: ShImmTo, MvnImm: ShImmTo,
	TstImm: ShImmOf, TeqImm: ShImmOf, CmnImm: ShImmOf, CmpImm: ShImmOf,
	AndShift: ShBarrel, BicShift: ShBarrel, OrrShift: ShBarrel, OrnShift: ShBarrel, EorShift: ShBarrel, AddShift: ShBarrel,
	AdcShift: ShBarrel, SbcShift: ShBarrel, SubShift: ShBarrel, RsbShift: ShBarrel,
	MovShift: ShBarrelTo, MvnShift: ShBarrelTo,
	TstShift: ShBarrelOf, TeqShift: ShBarrelOf, CmnShift: ShBarrelOf, CmpShift: ShBarrelOf,
	AddWide: ShPlain, SubWide: ShPlain, StrWide: ShLoad, LdrWide: ShLoad, StrIndex: ShIndex, LdrIndex: ShIndex,
	LslWide: ShTurn, LsrWide: ShTurn, AsrWide: ShTurn, RorWide: ShTurn,
	Mul: ShMul, Mla: ShMla, Mls: ShMls,
	Umull: ShLong, Umlal: ShLong, Udiv: ShMul, Clz: ShClz,
	BcondWide: ShCondWide, BWide: ShJumpWide,
}

// formWords are the forms' words.
var formWords = [...]string{
	LslImm: "lsls", LsrImm: "lsrs", AsrImm: "asrs",
	AddReg: "adds", SubReg: "subs", AddTiny: "adds", SubTiny: "subs",
	MovByte: "movs", CmpByte: "cmp", AddByte: "adds", SubByte: "subs",
	And: "ands", Eor: "eors", Lsl: "lsls", Lsr: "lsrs", Asr: "asrs", Adc: "adcs",
	Sbc: "sbcs", Ror: "rors", Tst: "tst", Rsb: "rsbs", Cmp: "cmp", Cmn: "cmn",
	Orr: "orrs", Muls: "muls", Bic: "bics", Mvn: "mvns",
	AddHigh: "add", CmpHigh: "cmp", MovHigh: "mov", Bx: "bx",
	LdrLit: "ldr", StrReg: "str", LdrReg: "ldr", StrOff: "str", LdrOff: "ldr",
	StrSp: "str", LdrSp: "ldr", AddSp: "add", IncSp: "add", DecSp: "sub",
	Push: "push", Pop: "pop", Nop: "nop", Bkpt: "bkpt",
	Bcond: "b", B: "b",
	Movw: "movw", Movt: "movt",
	AndImm: "and.w", BicImm: "bic.w", OrrImm: "orr.w", OrnImm: "orn.w", EorImm: "eor.w", AddImm: "add.w",
	AdcImm: "adc.w", SbcImm: "sbc.w", SubImm: "sub.w", RsbImm: "rsb.w",
	MovImm: "mov.w", MvnImm: "mvn.w",
	TstImm: "tst.w", TeqImm: "teq.w", CmnImm: "cmn.w", CmpImm: "cmp.w",
	AndShift: "and.w", BicShift: "bic.w", OrrShift: "orr.w", OrnShift: "orn.w", EorShift: "eor.w", AddShift: "add.w",
	AdcShift: "adc.w", SbcShift: "sbc.w", SubShift: "sub.w", RsbShift: "rsb.w",
	MovShift: "mov.w", MvnShift: "mvn.w",
	TstShift: "tst.w", TeqShift: "teq.w", CmnShift: "cmn.w", CmpShift: "cmp.w",
	AddWide: "addw", SubWide: "subw", StrWide: "str.w", LdrWide: "ldr.w", StrIndex: "str.w", LdrIndex: "ldr.w",
	LslWide: "lsl.w", LsrWide: "lsr.w", AsrWide: "asr.w", RorWide: "ror.w",
	Mul: "mul", Mla: "mla", Mls: "mls",
	Umull: "umull", Umlal: "umlal", Udiv: "udiv", Clz: "clz",
	BcondWide: "b.w", BWide: "b.w",
}

// formBits are the forms' bits.
var formBits = [...]uint32{
	LslImm: 0x0000, LsrImm: 0x0800, AsrImm: 0x1000,
	AddReg: 0x1800, SubReg: 0x1A00, AddTiny: 0x1C00, SubTiny: 0x1E00,
	MovByte: 0x2000, CmpByte: 0x2800, AddByte: 0x3000, SubByte: 0x3800,
	And: 0x4000, Eor: 0x4040, Lsl: 0x4080, Lsr: 0x40C0, Asr: 0x4100, Adc: 0x4140,
	Sbc: 0x4180, Ror: 0x41C0, Tst: 0x4200, Rsb: 0x4240, Cmp: 0x4280, Cmn: 0x42C0,
	Orr: 0x4300, Muls: 0x4340, Bic: 0x4380, Mvn: 0x43C0,
	AddHigh: 0x4400, CmpHigh: 0x4500, MovHigh: 0x4600, Bx: 0x4700,
	LdrLit: 0x4800, StrReg: 0x5000, LdrReg: 0x5800, StrOff: 0x6000, LdrOff: 0x6800,
	StrSp: 0x9000, LdrSp: 0x9800, AddSp: 0xA800, IncSp: 0xB000, DecSp: 0xB080,
	Push: 0xB400, Pop: 0xBC00, Nop: 0xBF00, Bkpt: 0xBE00,
	Bcond: 0xD000, B: 0xE000,
	Movw: 0xF2400000, Movt: 0xF2C00000,
	AndImm: 0xF0000000, BicImm: 0xF0200000, OrrImm: 0xF0400000, OrnImm: 0xF0600000, EorImm: 0xF0800000, AddImm: 0xF1000000,
	AdcImm: 0xF1400000, SbcImm: 0xF1600000, SubImm: 0xF1A00000, RsbImm: 0xF1C00000,
	MovImm: 0xF04F0000, MvnImm: 0xF06F0000,
	TstImm: 0xF0100F00, TeqImm: 0xF0900F00, CmnImm: 0xF1100F00, CmpImm: 0xF1B00F00,
	AndShift: 0xEA000000, BicShift: 0xEA200000, OrrShift: 0xEA400000, OrnShift: 0xEA600000, EorShift: 0xEA800000, AddShift: 0xEB000000,
	AdcShift: 0xEB400000, SbcShift: 0xEB600000, SubShift: 0xEBA00000, RsbShift: 0xEBC00000,
	MovShift: 0xEA4F0000, MvnShift: 0xEA6F0000,
	TstShift: 0xEA100F00, TeqShift: 0xEA900F00, CmnShift: 0xEB100F00, CmpShift: 0xEBB00F00,
	AddWide: 0xF2000000, SubWide: 0xF2A00000, StrWide: 0xF8C00000, LdrWide: 0xF8D00000, StrIndex: 0xF8400000, LdrIndex: 0xF8500000,
	LslWide: 0xFA00F000, LsrWide: 0xFA20F000, AsrWide: 0xFA40F000, RorWide: 0xFA60F000,
	Mul: 0xFB00F000, Mla: 0xFB000000, Mls: 0xFB000010,
	Umull: 0xFBA00000, Umlal: 0xFBE00000, Udiv: 0xFBB0F0F0, Clz: 0xFAB0F080,
	BcondWide: 0xF0008000, BWide: 0xF0009000,
}

// Is tells whether a form is one.
func (f Form) Is() bool { return f >= LslImm && f <= BWide }

// Name is a form's word.
func (f Form) Name() string {
	if !f.Is() {
		return ""
	}
	return formWords[f]
}

// Shape is a form's shape.
func (f Form) Shape() Shape {
	if !f.Is() {
		return 0
	}
	return formShapes[f]
}

// Bits are a form's bits.
func (f Form) Bits() uint32 {
	if !f.Is() {
		return 0
	}
	return formBits[f]
}

// Wide tells whether a form has 32 bits.
func (f Form) Wide() bool { return f.Is() && f >= Movw }

// Size is how many bytes a form has.
func (f Form) Size() int {
	switch {
	case !f.Is():
		return 0
	case f.Wide():
		return 4
	}
	return 2
}
