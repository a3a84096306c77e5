package core

import (
	"remontoire/alu"
	"remontoire/imm"
	"remontoire/inst"
)

// stackMask are the bits of the stack's address that are noughts, when it is set by a form that takes any register.
const stackMask = 3

// first is the first operand.
func (w *work) first() uint32 {
	switch w.i.Form.Shape() {
	case inst.ShByte, inst.ShTwo, inst.ShHigh, inst.ShImmTo, inst.ShBarrelTo:
		return w.R[w.i.Rd]
	}
	return w.R[w.i.Rn]
}

// second is the second operand, and its carry.
func (w *work) second() (y, carry uint32) {
	switch w.i.Form.Shape() {
	case inst.ShBarrel, inst.ShBarrelTo, inst.ShBarrelOf:
		// Of what stands in a right instruction, neither a shift nor a number tells an error.
		y, carry, _ = alu.Shift(w.i.Kind, w.R[w.i.Rm], w.i.By, w.C)
		return y, carry
	case inst.ShImm, inst.ShImmTo, inst.ShImmOf:
		y, _ = imm.Word(w.i.Imm)
		carry, _ = imm.Carry(w.i.Imm, w.C)
		return y, carry
	case inst.ShTiny, inst.ShByte, inst.ShPlain:
		return uint32(w.i.Imm), w.C
	}
	return w.R[w.i.Rm], w.C
}

// put lets Rd be x.
func (w *work) put(x uint32) {
	// Just the forms that take any register may have the stack's as Rd.
	if w.i.Rd == stack {
		x &^= stackMask
	}
	w.R[w.i.Rd] = x
}

// keeps tells whether what comes of it stays in Rd: what compares or tests is there for its flags alone.
func (w *work) keeps() bool {
	switch w.i.Form.Shape() {
	case inst.ShImmOf, inst.ShBarrelOf:
		return false
	}
	switch w.i.Form {
	case inst.CmpByte, inst.Cmp, inst.CmpHigh, inst.Cmn, inst.Tst:
		return false
	}
	return true
}

// sets tells whether flags are set: a shape with a field for that is asked, the others set them always or, if they just move or add, never.
func (w *work) sets() bool {
	switch w.i.Form.Shape() {
	case inst.ShImm, inst.ShImmTo, inst.ShBarrel, inst.ShBarrelTo, inst.ShTurn:
		return w.i.Set == 1
	case inst.ShHigh:
		return w.i.Form == inst.CmpHigh
	case inst.ShPlain:
		return false
	}
	return true
}
