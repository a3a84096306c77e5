package core

import (
	"remontoire/api"
	"remontoire/inst"
)

// execute does what the instruction does. Just what goes to memory can go wrong.
func (w *work) execute() api.Errno {
	switch w.i.Form {
	case inst.LdrLit, inst.LdrReg, inst.LdrOff, inst.LdrSp, inst.LdrWide, inst.LdrIndex:
		return w.load()
	case inst.StrReg, inst.StrOff, inst.StrSp, inst.StrWide, inst.StrIndex:
		return w.store()
	case inst.Push:
		return w.push()
	case inst.Pop:
		return w.pop()
	}
	w.compute()
	return api.OK
}

// compute does what an instruction does that has no part in memory.
func (w *work) compute() {
	switch w.i.Form {
	case inst.LslImm, inst.LsrImm, inst.AsrImm, inst.Lsl, inst.Lsr, inst.Asr, inst.Ror,
		inst.LslWide, inst.LsrWide, inst.AsrWide, inst.RorWide:
		w.shift()
	case inst.And, inst.Orr, inst.Eor, inst.Bic, inst.Tst, inst.MovByte, inst.Mvn, inst.MovHigh,
		inst.AndImm, inst.OrrImm, inst.EorImm, inst.BicImm, inst.OrnImm, inst.TstImm, inst.TeqImm, inst.MovImm, inst.MvnImm,
		inst.AndShift, inst.OrrShift, inst.EorShift, inst.BicShift, inst.OrnShift, inst.TstShift, inst.TeqShift, inst.MovShift, inst.MvnShift:
		w.combine()
	case inst.AddReg, inst.AddTiny, inst.AddByte, inst.AddHigh, inst.AddWide, inst.Adc, inst.Cmn,
		inst.SubReg, inst.SubTiny, inst.SubByte, inst.SubWide, inst.Sbc, inst.Rsb,
		inst.CmpByte, inst.Cmp, inst.CmpHigh,
		inst.AddImm, inst.AdcImm, inst.SubImm, inst.SbcImm, inst.RsbImm, inst.CmpImm, inst.CmnImm,
		inst.AddShift, inst.AdcShift, inst.SubShift, inst.SbcShift, inst.RsbShift, inst.CmpShift, inst.CmnShift:
		w.sum()
	case inst.Muls, inst.Mul, inst.Mla, inst.Mls:
		w.multiply()
	case inst.Umull, inst.Umlal:
		w.multiplyLong()
	case inst.Udiv:
		w.divide()
	case inst.Clz:
		w.countNoughts()
	case inst.Movw, inst.Movt:
		w.moveHalf()
	case inst.AddSp, inst.IncSp, inst.DecSp:
		w.moveStack()
	case inst.Bcond, inst.B, inst.BcondWide, inst.BWide:
		w.jump()
	case inst.Bx:
		w.goBack(w.R[w.i.Rm])
	case inst.Bkpt:
		w.halt = Halt{Kind: Trapped, Code: w.i.Imm}
	}
}

// jump goes on elsewhere; a branch with a condition just if it holds.
func (w *work) jump() {
	switch w.i.Form {
	case inst.Bcond, inst.BcondWide:
		if !Holds(w.State, w.i.Cond) {
			return
		}
	}
	w.R[counter] = w.at + ahead + uint32(w.i.Imm)
}

// goBack goes on at an address, or halts, if it is the one to halt at. The lowest bit has no part in it.
func (w *work) goBack(address uint32) {
	even := address &^ 1
	if even == api.HaltAt {
		w.halt = Halt{Kind: Returned}
		return
	}
	w.R[counter] = even
}

// moveStack reckons with the stack's address.
func (w *work) moveStack() {
	n := uint32(w.i.Imm)
	switch w.i.Form {
	case inst.AddSp:
		w.R[w.i.Rd] = w.R[stack] + n
	case inst.IncSp:
		w.R[stack] += n
	case inst.DecSp:
		w.R[stack] -= n
	}
}
