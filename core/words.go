package core

import (
	"remontoire/alu"
	"remontoire/inst"
)

const (
	wordBits = 32
	lowByte  = 0xFF
	lowHalf  = 0xFFFF
)

// shift shifts a word: what is shifted and how far stand elsewhere, where a number says how far.
func (w *work) shift() {
	x, n := w.first(), int(w.R[w.i.Rm]&lowByte)
	if w.i.Form.Shape() == inst.ShShift {
		x, n = w.R[w.i.Rm], w.i.Imm
	}
	// No byte, and no number of a right instruction, is further than a shift may go.
	y, carry, _ := alu.Shift(shiftKind(w.i.Form), x, n, w.C)
	w.put(y)
	if w.sets() {
		w.signs(y)
		w.C = carry
	}
}

func shiftKind(f inst.Form) int {
	switch f {
	case inst.LslImm, inst.Lsl, inst.LslWide:
		return alu.LSL
	case inst.LsrImm, inst.Lsr, inst.LsrWide:
		return alu.LSR
	case inst.AsrImm, inst.Asr, inst.AsrWide:
		return alu.ASR
	}
	return alu.ROR
}

// combine does what goes bit by bit.
func (w *work) combine() {
	y, carry := w.second()
	x := combined(w.i.Form, w.first(), y)
	if w.keeps() {
		w.put(x)
	}
	if w.sets() {
		w.signs(x)
		w.C = carry
	}
}

func combined(f inst.Form, x, y uint32) uint32 {
	switch f {
	case inst.And, inst.AndImm, inst.AndShift, inst.Tst, inst.TstImm, inst.TstShift:
		return x & y
	case inst.Orr, inst.OrrImm, inst.OrrShift:
		return x | y
	case inst.Eor, inst.EorImm, inst.EorShift, inst.TeqImm, inst.TeqShift:
		return x ^ y
	case inst.Bic, inst.BicImm, inst.BicShift:
		return x &^ y
	case inst.OrnImm, inst.OrnShift:
		return x | ^y
	case inst.Mvn, inst.MvnImm, inst.MvnShift:
		return ^y
	}
	return y
}

// sum adds and takes away.
func (w *work) sum() {
	sum, carry, over := alu.Add(w.addends())
	if w.keeps() {
		w.put(sum)
	}
	if w.sets() {
		w.signs(sum)
		w.C, w.V = carry, over
	}
}

// addends are the two words and the carry whose sum it is: to take a word away is to add its other bits, and 1.
func (w *work) addends() (x, y, c uint32) {
	x = w.first()
	y, _ = w.second()
	switch w.i.Form {
	case inst.SubReg, inst.SubTiny, inst.SubByte, inst.SubImm, inst.SubShift, inst.SubWide,
		inst.CmpByte, inst.Cmp, inst.CmpHigh, inst.CmpImm, inst.CmpShift:
		return x, ^y, 1
	case inst.Adc, inst.AdcImm, inst.AdcShift:
		return x, y, w.C
	case inst.Sbc, inst.SbcImm, inst.SbcShift:
		return x, ^y, w.C
	case inst.Rsb:
		return 0, ^y, 1
	case inst.RsbImm, inst.RsbShift:
		return y, ^x, 1
	}
	return x, y, 0
}

// multiply does what has one word of a product.
func (w *work) multiply() {
	product := w.first() * w.R[w.i.Rm]
	switch w.i.Form {
	case inst.Muls:
		w.signs(product)
	case inst.Mla:
		product += w.R[w.i.Ra]
	case inst.Mls:
		product = w.R[w.i.Ra] - product
	}
	w.put(product)
}

// multiplyLong does what has both words of a product.
func (w *work) multiplyLong() {
	product := alu.Pair(alu.Wide(w.first(), w.R[w.i.Rm]))
	if w.i.Form == inst.Umlal {
		product += alu.Pair(w.R[w.i.Rd], w.R[w.i.Ra])
	}
	w.R[w.i.Rd], w.R[w.i.Ra] = uint32(product), uint32(product>>wordBits)
}

// divide divides; by nought that is nought.
func (w *work) divide() {
	quotient, by := uint32(0), w.R[w.i.Rm]
	if by != 0 {
		quotient = w.first() / by
	}
	w.put(quotient)
}

// countNoughts tells how many noughts a word has ahead.
func (w *work) countNoughts() { w.put(uint32(wordBits - alu.Len(w.R[w.i.Rm]))) }

// moveHalf lets Rd be a half, or its upper half be one.
func (w *work) moveHalf() {
	half := uint32(w.i.Imm)
	if w.i.Form == inst.Movt {
		half = half<<halfBits | w.R[w.i.Rd]&lowHalf
	}
	w.put(half)
}
