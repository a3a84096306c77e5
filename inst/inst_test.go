package inst_test

import (
	"math"
	"testing"

	"remontoire/inst"
)

// forms are the chapter's table, row for row.
var forms = []struct {
	number int
	form   inst.Form
	word   string
	shape  inst.Shape
	bits   uint32
	size   int
}{
	{1, inst.LslImm, "lsls", inst.ShShift, 0x0000, 2},
	{2, inst.LsrImm, "lsrs", inst.ShShift, 0x0800, 2},
	{3, inst.AsrImm, "asrs", inst.ShShift, 0x1000, 2},
	{4, inst.AddReg, "adds", inst.ShThree, 0x1800, 2},
	{5, inst.SubReg, "subs", inst.ShThree, 0x1a00, 2},
	{6, inst.AddTiny, "adds", inst.ShTiny, 0x1c00, 2},
	{7, inst.SubTiny, "subs", inst.ShTiny, 0x1e00, 2},
	{8, inst.MovByte, "movs", inst.ShByte, 0x2000, 2},
	{9, inst.CmpByte, "cmp", inst.ShByte, 0x2800, 2},
	{10, inst.AddByte, "adds", inst.ShByte, 0x3000, 2},
	{11, inst.SubByte, "subs", inst.ShByte, 0x3800, 2},
	{12, inst.And, "ands", inst.ShTwo, 0x4000, 2},
	{13, inst.Eor, "eors", inst.ShTwo, 0x4040, 2},
	{14, inst.Lsl, "lsls", inst.ShTwo, 0x4080, 2},
	{15, inst.Lsr, "lsrs", inst.ShTwo, 0x40c0, 2},
	{16, inst.Asr, "asrs", inst.ShTwo, 0x4100, 2},
	{17, inst.Adc, "adcs", inst.ShTwo, 0x4140, 2},
	{18, inst.Sbc, "sbcs", inst.ShTwo, 0x4180, 2},
	{19, inst.Ror, "rors", inst.ShTwo, 0x41c0, 2},
	{20, inst.Tst, "tst", inst.ShTwo, 0x4200, 2},
	{21, inst.Rsb, "rsbs", inst.ShTwo, 0x4240, 2},
	{22, inst.Cmp, "cmp", inst.ShTwo, 0x4280, 2},
	{23, inst.Cmn, "cmn", inst.ShTwo, 0x42c0, 2},
	{24, inst.Orr, "orrs", inst.ShTwo, 0x4300, 2},
	{25, inst.Muls, "muls", inst.ShTwo, 0x4340, 2},
	{26, inst.Bic, "bics", inst.ShTwo, 0x4380, 2},
	{27, inst.Mvn, "mvns", inst.ShTwo, 0x43c0, 2},
	{28, inst.AddHigh, "add", inst.ShHigh, 0x4400, 2},
	{29, inst.CmpHigh, "cmp", inst.ShHigh, 0x4500, 2},
	{30, inst.MovHigh, "mov", inst.ShHigh, 0x4600, 2},
	{31, inst.Bx, "bx", inst.ShBx, 0x4700, 2},
	{32, inst.LdrLit, "ldr", inst.ShLit, 0x4800, 2},
	{33, inst.StrReg, "str", inst.ShThree, 0x5000, 2},
	{34, inst.LdrReg, "ldr", inst.ShThree, 0x5800, 2},
	{35, inst.StrOff, "str", inst.ShOff, 0x6000, 2},
	{36, inst.LdrOff, "ldr", inst.ShOff, 0x6800, 2},
	{37, inst.StrSp, "str", inst.ShLit, 0x9000, 2},
	{38, inst.LdrSp, "ldr", inst.ShLit, 0x9800, 2},
	{39, inst.AddSp, "add", inst.ShLit, 0xa800, 2},
	{40, inst.IncSp, "add", inst.ShInc, 0xb000, 2},
	{41, inst.DecSp, "sub", inst.ShInc, 0xb080, 2},
	{42, inst.Push, "push", inst.ShPush, 0xb400, 2},
	{43, inst.Pop, "pop", inst.ShPop, 0xbc00, 2},
	{44, inst.Nop, "nop", inst.ShNone, 0xbf00, 2},
	{45, inst.Bkpt, "bkpt", inst.ShBkpt, 0xbe00, 2},
	{46, inst.Bcond, "b", inst.ShCond, 0xd000, 2},
	{47, inst.B, "b", inst.ShJump, 0xe000, 2},
	{48, inst.Movw, "movw", inst.ShMovw, 0xf2400000, 4},
	{49, inst.Movt, "movt", inst.ShMovw, 0xf2c00000, 4},
	{50, inst.AndImm, "and.w", inst.ShImm, 0xf0000000, 4},
	{51, inst.BicImm, "bic.w", inst.ShImm, 0xf0200000, 4},
	{52, inst.OrrImm, "orr.w", inst.ShImm, 0xf0400000, 4},
	{53, inst.OrnImm, "orn.w", inst.ShImm, 0xf0600000, 4},
	{54, inst.EorImm, "eor.w", inst.ShImm, 0xf0800000, 4},
	{55, inst.AddImm, "add.w", inst.ShImm, 0xf1000000, 4},
	{56, inst.AdcImm, "adc.w", inst.ShImm, 0xf1400000, 4},
	{57, inst.SbcImm, "sbc.w", inst.ShImm, 0xf1600000, 4},
	{58, inst.SubImm, "sub.w", inst.ShImm, 0xf1a00000, 4},
	{59, inst.RsbImm, "rsb.w", inst.ShImm, 0xf1c00000, 4},
	{60, inst.MovImm, "mov.w", inst.ShImmTo, 0xf04f0000, 4},
	{61, inst.MvnImm, "mvn.w", inst.ShImmTo, 0xf06f0000, 4},
	{62, inst.TstImm, "tst.w", inst.ShImmOf, 0xf0100f00, 4},
	{63, inst.TeqImm, "teq.w", inst.ShImmOf, 0xf0900f00, 4},
	{64, inst.CmnImm, "cmn.w", inst.ShImmOf, 0xf1100f00, 4},
	{65, inst.CmpImm, "cmp.w", inst.ShImmOf, 0xf1b00f00, 4},
	{66, inst.AndShift, "and.w", inst.ShBarrel, 0xea000000, 4},
	{67, inst.BicShift, "bic.w", inst.ShBarrel, 0xea200000, 4},
	{68, inst.OrrShift, "orr.w", inst.ShBarrel, 0xea400000, 4},
	{69, inst.OrnShift, "orn.w", inst.ShBarrel, 0xea600000, 4},
	{70, inst.EorShift, "eor.w", inst.ShBarrel, 0xea800000, 4},
	{71, inst.AddShift, "add.w", inst.ShBarrel, 0xeb000000, 4},
	{72, inst.AdcShift, "adc.w", inst.ShBarrel, 0xeb400000, 4},
	{73, inst.SbcShift, "sbc.w", inst.ShBarrel, 0xeb600000, 4},
	{74, inst.SubShift, "sub.w", inst.ShBarrel, 0xeba00000, 4},
	{75, inst.RsbShift, "rsb.w", inst.ShBarrel, 0xebc00000, 4},
	{76, inst.MovShift, "mov.w", inst.ShBarrelTo, 0xea4f0000, 4},
	{77, inst.MvnShift, "mvn.w", inst.ShBarrelTo, 0xea6f0000, 4},
	{78, inst.TstShift, "tst.w", inst.ShBarrelOf, 0xea100f00, 4},
	{79, inst.TeqShift, "teq.w", inst.ShBarrelOf, 0xea900f00, 4},
	{80, inst.CmnShift, "cmn.w", inst.ShBarrelOf, 0xeb100f00, 4},
	{81, inst.CmpShift, "cmp.w", inst.ShBarrelOf, 0xebb00f00, 4},
	{82, inst.AddWide, "addw", inst.ShPlain, 0xf2000000, 4},
	{83, inst.SubWide, "subw", inst.ShPlain, 0xf2a00000, 4},
	{84, inst.StrWide, "str.w", inst.ShLoad, 0xf8c00000, 4},
	{85, inst.LdrWide, "ldr.w", inst.ShLoad, 0xf8d00000, 4},
	{86, inst.StrIndex, "str.w", inst.ShIndex, 0xf8400000, 4},
	{87, inst.LdrIndex, "ldr.w", inst.ShIndex, 0xf8500000, 4},
	{88, inst.LslWide, "lsl.w", inst.ShTurn, 0xfa00f000, 4},
	{89, inst.LsrWide, "lsr.w", inst.ShTurn, 0xfa20f000, 4},
	{90, inst.AsrWide, "asr.w", inst.ShTurn, 0xfa40f000, 4},
	{91, inst.RorWide, "ror.w", inst.ShTurn, 0xfa60f000, 4},
	{92, inst.Mul, "mul", inst.ShMul, 0xfb00f000, 4},
	{93, inst.Mla, "mla", inst.ShMla, 0xfb000000, 4},
	{94, inst.Mls, "mls", inst.ShMls, 0xfb000010, 4},
	{95, inst.Umull, "umull", inst.ShLong, 0xfba00000, 4},
	{96, inst.Umlal, "umlal", inst.ShLong, 0xfbe00000, 4},
	{97, inst.Udiv, "udiv", inst.ShMul, 0xfbb0f0f0, 4},
	{98, inst.Clz, "clz", inst.ShClz, 0xfab0f080, 4},
	{99, inst.BcondWide, "b.w", inst.ShCondWide, 0xf0008000, 4},
	{100, inst.BWide, "b.w", inst.ShJumpWide, 0xf0009000, 4},
}

// noForms are numbers below 1 and above 100, some of which have low bits that would do.
var noForms = []inst.Form{0, -1, -2, -47, -48, -100, -101, 101, 102, 127, 128, 129, 256, 257, 304, 1<<16 + 4, 1<<32 + 1, 1<<32 + 48, math.MinInt, math.MinInt + 1, math.MaxInt}

// P3.1: each of the hundred forms with its number, word, shape and bits.
func TestForms(t *testing.T) {
	if len(forms) != 100 {
		t.Fatal(len(forms))
	}
	for n, x := range forms {
		if x.number != n+1 || int(x.form) != x.number {
			t.Errorf("the form %d, %s, has the number %d", x.number, x.word, x.form)
		}
		if !x.form.Is() {
			t.Errorf("Is of %d doesn't hold", x.form)
		}
		if x.form.Name() != x.word || x.form.Shape() != x.shape || x.form.Bits() != x.bits {
			t.Errorf("%d: %q %d %#x, not %q %d %#x", x.form, x.form.Name(), x.form.Shape(), x.form.Bits(), x.word, x.shape, x.bits)
		}
	}
}

// P3.1: how many bytes each form has, and its instructions, be they right or not.
func TestSizes(t *testing.T) {
	for _, x := range forms {
		if x.form.Wide() != (x.size == 4) || x.form.Size() != x.size {
			t.Errorf("%d: Wide %t, Size %d, not %d", x.form, x.form.Wide(), x.form.Size(), x.size)
		}
		for _, i := range []inst.Inst{{Form: x.form}, {Form: x.form, Rd: -1, Rn: 99, Imm: math.MaxInt, Kind: 4, Set: 2, Regs: -1}} {
			if i.Bytes() != x.size {
				t.Errorf("Bytes of %v: %d, not %d", i, i.Bytes(), x.size)
			}
		}
	}
	if inst.Form(47).Wide() || !inst.Form(48).Wide() || inst.Form(1).Size() != 2 || inst.Form(47).Size() != 2 || inst.Form(48).Size() != 4 || inst.Form(100).Size() != 4 {
		t.Error("the last narrow and the first wide form")
	}
}

// P3.1: of what is no form, an empty text and noughts.
func TestNoForms(t *testing.T) {
	for _, f := range noForms {
		if f.Is() || f.Name() != "" || f.Shape() != 0 || f.Bits() != 0 || f.Wide() || f.Size() != 0 {
			t.Errorf("%d: %t %q %d %#x %t %d", f, f.Is(), f.Name(), f.Shape(), f.Bits(), f.Wide(), f.Size())
		}
		if n := (inst.Inst{Form: f, Rd: 1, Rn: 2, Rm: 3}).Bytes(); n != 0 {
			t.Errorf("Bytes of an instruction of %d: %d", f, n)
		}
	}
}

// P3.2: the shapes' constants, from 1 on, in the order of the chapter.
func TestShapes(t *testing.T) {
	for n, s := range []inst.Shape{
		inst.ShShift, inst.ShThree, inst.ShTiny, inst.ShByte, inst.ShTwo, inst.ShHigh, inst.ShBx, inst.ShLit, inst.ShOff, inst.ShInc,
		inst.ShPush, inst.ShPop, inst.ShNone, inst.ShBkpt, inst.ShCond, inst.ShJump, inst.ShMovw, inst.ShImm, inst.ShImmTo, inst.ShImmOf,
		inst.ShBarrel, inst.ShBarrelTo, inst.ShBarrelOf, inst.ShPlain, inst.ShLoad, inst.ShIndex, inst.ShTurn, inst.ShMul, inst.ShMla, inst.ShMls,
		inst.ShLong, inst.ShClz, inst.ShCondWide, inst.ShJumpWide,
	} {
		if int(s) != n+1 {
			t.Errorf("the shape %d has the number %d", n+1, s)
		}
	}
}

// P3.2: Branch holds of five forms, whatever the fields are, and of nothing else.
func TestBranch(t *testing.T) {
	branches := map[inst.Form]bool{inst.Bx: true, inst.Bcond: true, inst.B: true, inst.BcondWide: true, inst.BWide: true}
	for f := inst.Form(-200); f <= 300; f++ {
		for _, i := range []inst.Inst{{Form: f}, {Form: f, Rd: 15, Rm: 14, Imm: 1, Cond: 14}} {
			if i.Branch() != branches[f] {
				t.Errorf("Branch of %v: %t", i, i.Branch())
			}
		}
	}
	for _, f := range noForms {
		if (inst.Inst{Form: f}).Branch() {
			t.Errorf("Branch of %d holds", f)
		}
	}
}

// P3.2: Low holds from 0 to 7.
func TestLow(t *testing.T) {
	for r := -300; r <= 300; r++ {
		if inst.Low(r) != (r == 0 || r == 1 || r == 2 || r == 3 || r == 4 || r == 5 || r == 6 || r == 7) {
			t.Errorf("Low(%d): %t", r, inst.Low(r))
		}
	}
	for _, r := range []int{1 << 32, 1<<32 + 7, -1 << 32, math.MinInt, math.MaxInt} {
		if inst.Low(r) {
			t.Errorf("Low(%d) holds", r)
		}
	}
}
