package core

import (
	"math/bits"

	"remontoire/alu"
	"remontoire/api"
	"remontoire/inst"
)

const (
	wordBytes = 4
	wordMask  = wordBytes - 1
)

// address is where one word is loaded from, or stored to.
func (w *work) address() uint32 {
	n := uint32(w.i.Imm)
	switch w.i.Form {
	case inst.LdrLit:
		return (w.at+ahead)&^wordMask + n
	case inst.LdrSp, inst.StrSp:
		return w.R[stack] + n
	case inst.LdrReg, inst.StrReg, inst.LdrIndex, inst.StrIndex:
		return w.R[w.i.Rn] + w.R[w.i.Rm]<<w.i.By
	}
	return w.R[w.i.Rn] + n
}

// load loads one word.
func (w *work) load() api.Errno {
	w.data, w.words = w.address(), 1
	word, e := w.memory.Load(w.data)
	if e != api.OK {
		return e
	}
	w.put(word)
	return api.OK
}

// store stores one word.
func (w *work) store() api.Errno {
	w.data, w.words = w.address(), 1
	return w.memory.Store(w.data, w.R[w.i.Rd])
}

// push stores registers below the stack's address, the least one lowest.
func (w *work) push() api.Errno {
	w.words = bits.OnesCount32(uint32(w.i.Regs))
	w.R[stack] -= wordBytes * uint32(w.words)
	w.data = w.R[stack]
	place := w.data
	for r := range registers {
		if !w.lists(r) {
			continue
		}
		if e := w.memory.Store(place, w.R[r]); e != api.OK {
			return e
		}
		place += wordBytes
	}
	return api.OK
}

// pop loads registers from the stack's address on.
func (w *work) pop() api.Errno {
	w.words = bits.OnesCount32(uint32(w.i.Regs))
	w.data = w.R[stack]
	for r := range registers {
		if !w.lists(r) {
			continue
		}
		word, e := w.memory.Load(w.R[stack])
		if e != api.OK {
			return e
		}
		w.R[stack] += wordBytes
		w.loaded(r, word)
	}
	return api.OK
}

// loaded lets a register be what was loaded for it. The counter's is the last one: all others are there, when it goes back.
func (w *work) loaded(r int, word uint32) {
	if r == counter {
		w.goBack(word)
		return
	}
	w.R[r] = word
}

// lists tells whether a register is one of Regs.
func (w *work) lists(r int) bool { return alu.Bit(uint32(w.i.Regs), r) == 1 }
