package core_test

import (
	"fmt"
	"maps"
	"testing"

	"remontoire/api"
	"remontoire/core"
	"remontoire/inst"
)

// deed is a step of one instruction: the registers, flags and RAM that it finds, and what must come of it.
// What isn't named stays, but for the counter, that goes on by the instruction's bytes.
type deed struct {
	i       inst.Inst
	at      uint32 // how far behind the flash's first byte it stands
	in      regs
	flags   string
	ram     words
	out     regs
	after   string
	stored  words
	data    uint32
	words   int
	cycles  int
	trapped bool
	home    bool // it is Returned
}

const flashBytes = 64

// flashWith is a flash that tells where its words are, with an instruction in it.
func flashWith(t *testing.T, i inst.Inst, at uint32) []byte {
	t.Helper()
	l := patterned(flashBytes)
	copy(l[at:], bytesOf(t, i))
	return l
}

// misses is how many lines there are that a step with an empty buffer fetches.
func (d deed) misses() int {
	last := d.at + uint32(d.i.Bytes()) - 2
	return int(last/16-d.at/16) + 1
}

func (d deed) check(t *testing.T, wait int) {
	t.Helper()
	what := fmt.Sprintf("%+v in %#x, %q", d.i, d.in, d.flags)
	m := memory(t, flashWith(t, d.i, d.at), d.ram)
	s := flagged(with(with(filled(), regs{15: flash + d.at}), d.in), d.flags)
	c := machine(t, m, wait, s)
	steps(t, what, c, core.Event{At: flash + d.at, Data: d.data, Words: d.words, Cycles: d.cycles, Misses: d.misses()})

	s.R[15] += uint32(d.i.Bytes())
	s = flagged(with(s, d.out), d.after)
	h := core.Halt{}
	switch {
	case d.home:
		h.Kind = core.Returned
	case d.trapped:
		h = core.Halt{Kind: core.Trapped, Code: d.i.Imm}
	}
	stands(t, what, c, s, d.cycles+wait*d.misses(), h)
	left := words{}
	maps.Copy(left, d.ram)
	maps.Copy(left, d.stored)
	if got := ramOf(m); !maps.Equal(got, left) {
		t.Errorf("%s: RAM %#x, not %#x", what, got, left)
	}
}

func checkAll(t *testing.T, list []deed) {
	t.Helper()
	for _, d := range list {
		for wait := 0; wait <= api.MaxWait; wait++ {
			d.check(t, wait)
		}
	}
}

// P7.2: shifts, of Imm and of a register's low byte.
func TestShifts(t *testing.T) { checkAll(t, shifts) }

var shifts = []deed{
	{i: inst.Inst{Form: inst.LslImm, Rd: 1, Rm: 2, Imm: 1}, in: regs{2: 0x80000001}, flags: "NZV", out: regs{1: 2}, after: "CV", cycles: 1},
	{i: inst.Inst{Form: inst.LslImm, Rd: 1, Rm: 2}, in: regs{2: 0}, flags: "NC", out: regs{1: 0}, after: "ZC", cycles: 1},
	{i: inst.Inst{Form: inst.LslImm, Rd: 1, Rm: 2}, in: regs{2: 5}, flags: "", out: regs{1: 5}, after: "", cycles: 1},
	{i: inst.Inst{Form: inst.LslImm, Rd: 7, Rm: 7, Imm: 31}, in: regs{7: 3}, flags: "", out: regs{7: 0x80000000}, after: "NC", cycles: 1},
	{i: inst.Inst{Form: inst.LsrImm, Rd: 1, Rm: 2, Imm: 1}, in: regs{2: 0x80000002}, flags: "NC", out: regs{1: 0x40000001}, after: "", cycles: 1},
	{i: inst.Inst{Form: inst.LsrImm, Rd: 1, Rm: 2, Imm: 32}, in: regs{2: 0x80000000}, flags: "", out: regs{1: 0}, after: "ZC", cycles: 1},
	{i: inst.Inst{Form: inst.AsrImm, Rd: 1, Rm: 2, Imm: 4}, in: regs{2: 0x80000010}, flags: "CV", out: regs{1: 0xF8000001}, after: "NV", cycles: 1},
	{i: inst.Inst{Form: inst.AsrImm, Rd: 1, Rm: 2, Imm: 32}, in: regs{2: 0x80000000}, flags: "", out: regs{1: 0xFFFFFFFF}, after: "NC", cycles: 1},

	{i: inst.Inst{Form: inst.Lsl, Rd: 1, Rm: 2}, in: regs{1: 1, 2: 0x101}, flags: "C", out: regs{1: 2}, after: "", cycles: 1},
	{i: inst.Inst{Form: inst.Lsl, Rd: 1, Rm: 2}, in: regs{1: 0x80000000, 2: 0xFFFFFF00}, flags: "C", out: regs{}, after: "NC", cycles: 1},
	{i: inst.Inst{Form: inst.Lsl, Rd: 1, Rm: 2}, in: regs{1: 1, 2: 32}, flags: "V", out: regs{1: 0}, after: "ZCV", cycles: 1},
	{i: inst.Inst{Form: inst.Lsl, Rd: 1, Rm: 2}, in: regs{1: 1, 2: 33}, flags: "C", out: regs{1: 0}, after: "Z", cycles: 1},
	{i: inst.Inst{Form: inst.Lsr, Rd: 1, Rm: 2}, in: regs{1: 0x80000000, 2: 32}, flags: "", out: regs{1: 0}, after: "ZC", cycles: 1},
	{i: inst.Inst{Form: inst.Lsr, Rd: 1, Rm: 2}, in: regs{1: 0xFFFFFFFF, 2: 255}, flags: "C", out: regs{1: 0}, after: "Z", cycles: 1},
	{i: inst.Inst{Form: inst.Asr, Rd: 1, Rm: 2}, in: regs{1: 0x80000000, 2: 255}, flags: "", out: regs{1: 0xFFFFFFFF}, after: "NC", cycles: 1},
	{i: inst.Inst{Form: inst.Asr, Rd: 1, Rm: 2}, in: regs{1: 0x7FFFFFFF, 2: 40}, flags: "NC", out: regs{1: 0}, after: "Z", cycles: 1},
	{i: inst.Inst{Form: inst.Ror, Rd: 1, Rm: 2}, in: regs{1: 1, 2: 1}, flags: "", out: regs{1: 0x80000000}, after: "NC", cycles: 1},
	{i: inst.Inst{Form: inst.Ror, Rd: 1, Rm: 2}, in: regs{1: 0x80000000, 2: 32}, flags: "", out: regs{}, after: "NC", cycles: 1},
	{i: inst.Inst{Form: inst.Ror, Rd: 1, Rm: 2}, in: regs{1: 1, 2: 64}, flags: "C", out: regs{}, after: "", cycles: 1},
	{i: inst.Inst{Form: inst.Ror, Rd: 3, Rm: 3}, in: regs{3: 4}, flags: "C", out: regs{3: 0x40000000}, after: "", cycles: 1},

	{i: inst.Inst{Form: inst.LslWide, Rd: 8, Rn: 9, Rm: 14}, in: regs{9: 0xC0000000, 14: 1}, flags: "Z", out: regs{8: 0x80000000}, after: "Z", cycles: 1},
	{i: inst.Inst{Form: inst.LslWide, Rd: 8, Rn: 9, Rm: 14, Set: 1}, in: regs{9: 0xC0000000, 14: 1}, flags: "ZV", out: regs{8: 0x80000000}, after: "NCV", cycles: 1},
	{i: inst.Inst{Form: inst.LslWide, Rd: 8, Rn: 9, Rm: 14, Set: 1}, in: regs{9: 7, 14: 256}, flags: "C", out: regs{8: 7}, after: "C", cycles: 1},
	{i: inst.Inst{Form: inst.LsrWide, Rd: 8, Rn: 9, Rm: 10}, in: regs{9: 3, 10: 1}, flags: "N", out: regs{8: 1}, after: "N", cycles: 1},
	{i: inst.Inst{Form: inst.LsrWide, Rd: 8, Rn: 9, Rm: 10, Set: 1}, in: regs{9: 3, 10: 1}, flags: "N", out: regs{8: 1}, after: "C", cycles: 1},
	{i: inst.Inst{Form: inst.AsrWide, Rd: 8, Rn: 9, Rm: 10}, in: regs{9: 0x80000000, 10: 31}, flags: "", out: regs{8: 0xFFFFFFFF}, after: "", cycles: 1},
	{i: inst.Inst{Form: inst.AsrWide, Rd: 8, Rn: 9, Rm: 10, Set: 1}, in: regs{9: 0x80000000, 10: 31}, flags: "C", out: regs{8: 0xFFFFFFFF}, after: "N", cycles: 1},
	{i: inst.Inst{Form: inst.RorWide, Rd: 8, Rn: 9, Rm: 10}, in: regs{9: 0x12345678, 10: 8}, flags: "NZCV", out: regs{8: 0x78123456}, after: "NZCV", cycles: 1},
	{i: inst.Inst{Form: inst.RorWide, Rd: 8, Rn: 9, Rm: 10, Set: 1}, in: regs{9: 0x12345678, 10: 8}, flags: "NZCV", out: regs{8: 0x78123456}, after: "V", cycles: 1},
}

// P7.2: sums and differences, and what compares.
func TestSums(t *testing.T) { checkAll(t, sums) }

var sums = []deed{
	{i: inst.Inst{Form: inst.AddReg, Rd: 1, Rn: 2, Rm: 3}, in: regs{2: 0x7FFFFFFF, 3: 1}, flags: "ZC", out: regs{1: 0x80000000}, after: "NV", cycles: 1},
	{i: inst.Inst{Form: inst.AddReg, Rd: 1, Rn: 2, Rm: 3}, in: regs{2: 0xFFFFFFFF, 3: 1}, flags: "NV", out: regs{1: 0}, after: "ZC", cycles: 1},
	{i: inst.Inst{Form: inst.AddReg, Rd: 2, Rn: 2, Rm: 2}, in: regs{2: 0x80000000}, flags: "", out: regs{2: 0}, after: "ZCV", cycles: 1},
	{i: inst.Inst{Form: inst.SubReg, Rd: 1, Rn: 2, Rm: 3}, in: regs{2: 5, 3: 5}, flags: "NV", out: regs{1: 0}, after: "ZC", cycles: 1},
	{i: inst.Inst{Form: inst.SubReg, Rd: 1, Rn: 2, Rm: 3}, in: regs{2: 3, 3: 5}, flags: "ZCV", out: regs{1: 0xFFFFFFFE}, after: "N", cycles: 1},
	{i: inst.Inst{Form: inst.SubReg, Rd: 1, Rn: 2, Rm: 3}, in: regs{2: 0x80000000, 3: 1}, flags: "", out: regs{1: 0x7FFFFFFF}, after: "CV", cycles: 1},
	{i: inst.Inst{Form: inst.AddTiny, Rd: 1, Rn: 2, Imm: 7}, in: regs{2: 1}, flags: "NZCV", out: regs{1: 8}, after: "", cycles: 1},
	{i: inst.Inst{Form: inst.SubTiny, Rd: 1, Rn: 2, Imm: 7}, in: regs{2: 7}, flags: "N", out: regs{1: 0}, after: "ZC", cycles: 1},
	{i: inst.Inst{Form: inst.AddByte, Rd: 1, Imm: 255}, in: regs{1: 0xFFFFFF01}, flags: "", out: regs{1: 0}, after: "ZC", cycles: 1},
	{i: inst.Inst{Form: inst.SubByte, Rd: 1, Imm: 1}, in: regs{1: 0}, flags: "C", out: regs{1: 0xFFFFFFFF}, after: "N", cycles: 1},
	{i: inst.Inst{Form: inst.AddImm, Rd: 8, Rn: 9, Imm: 0x400}, in: regs{9: 0x80000000}, flags: "N", out: regs{8: 0}, after: "N", cycles: 1},
	{i: inst.Inst{Form: inst.AddImm, Rd: 8, Rn: 9, Imm: 0x400, Set: 1}, in: regs{9: 0x80000000}, flags: "N", out: regs{8: 0}, after: "ZCV", cycles: 1},
	{i: inst.Inst{Form: inst.SubImm, Rd: 8, Rn: 9, Imm: 0x1AB}, in: regs{9: 0x00AB00AC}, flags: "NZ", out: regs{8: 1}, after: "NZ", cycles: 1},
	{i: inst.Inst{Form: inst.SubImm, Rd: 8, Rn: 9, Imm: 0x1AB, Set: 1}, in: regs{9: 0x00AB00AC}, flags: "NZ", out: regs{8: 1}, after: "C", cycles: 1},
	{i: inst.Inst{Form: inst.AddShift, Rd: 8, Rn: 9, Rm: 10, By: 4}, in: regs{9: 1, 10: 0x10000001}, flags: "Z", out: regs{8: 0x11}, after: "Z", cycles: 1},
	// The operand's carry has no part in a sum's.
	{i: inst.Inst{Form: inst.AddShift, Rd: 8, Rn: 9, Rm: 10, By: 4, Set: 1}, in: regs{9: 1, 10: 0x10000001}, flags: "Z", out: regs{8: 0x11}, after: "", cycles: 1},
	{i: inst.Inst{Form: inst.SubShift, Rd: 8, Rn: 9, Rm: 10, Kind: 1, By: 32}, in: regs{9: 1, 10: 0xFFFFFFFF}, flags: "", out: regs{8: 1}, after: "", cycles: 1},
	{i: inst.Inst{Form: inst.SubShift, Rd: 8, Rn: 9, Rm: 10, Kind: 2, By: 31, Set: 1}, in: regs{9: 1, 10: 0x80000000}, flags: "C", out: regs{8: 2}, after: "", cycles: 1},

	{i: inst.Inst{Form: inst.Adc, Rd: 1, Rm: 2}, in: regs{1: 0xFFFFFFFF, 2: 0}, flags: "C", out: regs{1: 0}, after: "ZC", cycles: 1},
	{i: inst.Inst{Form: inst.Adc, Rd: 1, Rm: 2}, in: regs{1: 0xFFFFFFFF, 2: 0}, flags: "V", out: regs{}, after: "N", cycles: 1},
	{i: inst.Inst{Form: inst.AdcImm, Rd: 1, Rn: 2, Imm: 1}, in: regs{2: 5}, flags: "C", out: regs{1: 7}, after: "C", cycles: 1},
	{i: inst.Inst{Form: inst.AdcImm, Rd: 1, Rn: 2, Imm: 1, Set: 1}, in: regs{2: 5}, flags: "C", out: regs{1: 7}, after: "", cycles: 1},
	// The operand's own carry isn't the one that comes in.
	{i: inst.Inst{Form: inst.AdcImm, Rd: 1, Rn: 2, Imm: 0x400, Set: 1}, in: regs{2: 5}, flags: "", out: regs{1: 0x80000005}, after: "N", cycles: 1},
	{i: inst.Inst{Form: inst.AdcShift, Rd: 1, Rn: 2, Rm: 3, By: 1}, in: regs{2: 5, 3: 0x80000001}, flags: "", out: regs{1: 7}, after: "", cycles: 1},
	{i: inst.Inst{Form: inst.AdcShift, Rd: 1, Rn: 2, Rm: 3, Kind: 3, By: 1, Set: 1}, in: regs{2: 0x7FFFFFFF, 3: 1}, flags: "C", out: regs{1: 0}, after: "ZC", cycles: 1},
	{i: inst.Inst{Form: inst.Sbc, Rd: 1, Rm: 2}, in: regs{1: 5, 2: 3}, flags: "", out: regs{1: 1}, after: "C", cycles: 1},
	{i: inst.Inst{Form: inst.Sbc, Rd: 1, Rm: 2}, in: regs{1: 5, 2: 3}, flags: "C", out: regs{1: 2}, after: "C", cycles: 1},
	{i: inst.Inst{Form: inst.Sbc, Rd: 1, Rm: 2}, in: regs{1: 3, 2: 3}, flags: "Z", out: regs{1: 0xFFFFFFFF}, after: "N", cycles: 1},
	{i: inst.Inst{Form: inst.SbcImm, Rd: 1, Rn: 2, Imm: 3}, in: regs{2: 3}, flags: "", out: regs{1: 0xFFFFFFFF}, after: "", cycles: 1},
	{i: inst.Inst{Form: inst.SbcImm, Rd: 1, Rn: 2, Imm: 3, Set: 1}, in: regs{2: 3}, flags: "C", out: regs{1: 0}, after: "ZC", cycles: 1},
	{i: inst.Inst{Form: inst.SbcShift, Rd: 1, Rn: 2, Rm: 3, By: 2}, in: regs{2: 20, 3: 3}, flags: "", out: regs{1: 7}, after: "", cycles: 1},
	{i: inst.Inst{Form: inst.SbcShift, Rd: 1, Rn: 2, Rm: 3, By: 2, Set: 1}, in: regs{2: 20, 3: 3}, flags: "NZ", out: regs{1: 7}, after: "C", cycles: 1},
	{i: inst.Inst{Form: inst.Rsb, Rd: 1, Rm: 2}, in: regs{2: 1}, flags: "C", out: regs{1: 0xFFFFFFFF}, after: "N", cycles: 1},
	{i: inst.Inst{Form: inst.Rsb, Rd: 1, Rm: 2}, in: regs{2: 0}, flags: "", out: regs{1: 0}, after: "ZC", cycles: 1},
	{i: inst.Inst{Form: inst.Rsb, Rd: 1, Rm: 2}, in: regs{2: 0x80000000}, flags: "", out: regs{1: 0x80000000}, after: "NV", cycles: 1},
	{i: inst.Inst{Form: inst.RsbImm, Rd: 1, Rn: 2, Imm: 10}, in: regs{2: 3}, flags: "", out: regs{1: 7}, after: "", cycles: 1},
	{i: inst.Inst{Form: inst.RsbImm, Rd: 1, Rn: 2, Imm: 10, Set: 1}, in: regs{2: 11}, flags: "C", out: regs{1: 0xFFFFFFFF}, after: "N", cycles: 1},
	{i: inst.Inst{Form: inst.RsbShift, Rd: 1, Rn: 2, Rm: 3, By: 1}, in: regs{2: 3, 3: 5}, flags: "Z", out: regs{1: 7}, after: "Z", cycles: 1},
	{i: inst.Inst{Form: inst.RsbShift, Rd: 1, Rn: 2, Rm: 3, By: 1, Set: 1}, in: regs{2: 3, 3: 5}, flags: "Z", out: regs{1: 7}, after: "C", cycles: 1},

	{i: inst.Inst{Form: inst.CmpByte, Rd: 1, Imm: 5}, in: regs{1: 4}, flags: "ZCV", out: regs{}, after: "N", cycles: 1},
	{i: inst.Inst{Form: inst.Cmp, Rd: 1, Rm: 2}, in: regs{1: 2, 2: 2}, flags: "NV", out: regs{}, after: "ZC", cycles: 1},
	{i: inst.Inst{Form: inst.CmpHigh, Rd: 8, Rm: 1}, in: regs{8: 1, 1: 2}, flags: "C", out: regs{}, after: "N", cycles: 1},
	{i: inst.Inst{Form: inst.CmpHigh, Rd: 1, Rm: 8}, in: regs{8: 1, 1: 2}, flags: "N", out: regs{}, after: "C", cycles: 1},
	{i: inst.Inst{Form: inst.CmpHigh, Rd: 13, Rm: 14}, in: regs{13: 3, 14: 3}, flags: "", out: regs{}, after: "ZC", cycles: 1},
	{i: inst.Inst{Form: inst.CmpImm, Rn: 8, Imm: 0x3FF}, in: regs{8: 0xFFFFFFFF}, flags: "N", out: regs{}, after: "ZC", cycles: 1},
	{i: inst.Inst{Form: inst.CmpShift, Rn: 8, Rm: 9, Kind: 1, By: 1}, in: regs{8: 2, 9: 6}, flags: "C", out: regs{}, after: "N", cycles: 1},
	{i: inst.Inst{Form: inst.Cmn, Rd: 1, Rm: 2}, in: regs{1: 0xFFFFFFFF, 2: 1}, flags: "NV", out: regs{}, after: "ZC", cycles: 1},
	{i: inst.Inst{Form: inst.CmnImm, Rn: 8, Imm: 1}, in: regs{8: 0x7FFFFFFF}, flags: "ZC", out: regs{}, after: "NV", cycles: 1},
	{i: inst.Inst{Form: inst.CmnShift, Rn: 8, Rm: 9, By: 31}, in: regs{8: 0x80000000, 9: 3}, flags: "N", out: regs{}, after: "ZCV", cycles: 1},

	{i: inst.Inst{Form: inst.AddHigh, Rd: 8, Rm: 9}, in: regs{8: 0xFFFFFFFF, 9: 1}, flags: "NV", out: regs{8: 0}, after: "NV", cycles: 1},
	{i: inst.Inst{Form: inst.AddHigh, Rd: 0, Rm: 13}, in: regs{0: 1, 13: ram + 2}, flags: "", out: regs{0: ram + 3}, after: "", cycles: 1},
	{i: inst.Inst{Form: inst.AddHigh, Rd: 13, Rm: 1}, in: regs{13: ram, 1: 7}, flags: "", out: regs{13: ram + 4}, after: "", cycles: 1},
	{i: inst.Inst{Form: inst.AddHigh, Rd: 13, Rm: 1}, in: regs{13: ram + 1, 1: 3}, flags: "", out: regs{13: ram + 4}, after: "", cycles: 1},
	{i: inst.Inst{Form: inst.AddHigh, Rd: 14, Rm: 14}, in: regs{14: 0x80000003}, flags: "", out: regs{14: 6}, after: "", cycles: 1},
	{i: inst.Inst{Form: inst.AddWide, Rd: 8, Rn: 9, Imm: 4095}, in: regs{9: 0xFFFFFFFF}, flags: "NZV", out: regs{8: 4094}, after: "NZV", cycles: 1},
	{i: inst.Inst{Form: inst.SubWide, Rd: 8, Rn: 9, Imm: 4095}, in: regs{9: 4094}, flags: "ZC", out: regs{8: 0xFFFFFFFF}, after: "ZC", cycles: 1},
	{i: inst.Inst{Form: inst.AddSp, Rd: 1, Imm: 1020}, in: regs{13: ram + 1}, flags: "NZCV", out: regs{1: ram + 1021}, after: "NZCV", cycles: 1},
	{i: inst.Inst{Form: inst.IncSp, Imm: 508}, in: regs{13: 0xFFFFFFFF}, flags: "", out: regs{13: 507}, after: "", cycles: 1},
	{i: inst.Inst{Form: inst.DecSp, Imm: 508}, in: regs{13: 4}, flags: "C", out: regs{13: 0xFFFFFE08}, after: "C", cycles: 1},
}

// P7.2: what goes bit by bit, and moves.
func TestBits(t *testing.T) { checkAll(t, bitwise) }

var bitwise = []deed{
	{i: inst.Inst{Form: inst.And, Rd: 1, Rm: 2}, in: regs{1: 0xF0F0F0F0, 2: 0xFF00FF00}, flags: "ZCV", out: regs{1: 0xF000F000}, after: "NCV", cycles: 1},
	{i: inst.Inst{Form: inst.AndImm, Rd: 1, Rn: 2, Imm: 0xFF}, in: regs{2: 0x100}, flags: "NC", out: regs{1: 0}, after: "NC", cycles: 1},
	{i: inst.Inst{Form: inst.AndImm, Rd: 1, Rn: 2, Imm: 0xFF, Set: 1}, in: regs{2: 0x100}, flags: "NC", out: regs{1: 0}, after: "ZC", cycles: 1},
	// A turned number's carry is the word's highest bit; others leave what was there.
	{i: inst.Inst{Form: inst.AndImm, Rd: 1, Rn: 2, Imm: 0x400, Set: 1}, in: regs{2: 1}, flags: "", out: regs{1: 0}, after: "ZC", cycles: 1},
	{i: inst.Inst{Form: inst.AndImm, Rd: 1, Rn: 2, Imm: 0xF82, Set: 1}, in: regs{2: 4}, flags: "C", out: regs{1: 4}, after: "", cycles: 1},
	{i: inst.Inst{Form: inst.AndShift, Rd: 1, Rn: 2, Rm: 3}, in: regs{2: 6, 3: 3}, flags: "N", out: regs{1: 2}, after: "N", cycles: 1},
	{i: inst.Inst{Form: inst.AndShift, Rd: 1, Rn: 2, Rm: 3, Set: 1}, in: regs{2: 6, 3: 3}, flags: "NC", out: regs{1: 2}, after: "C", cycles: 1},
	{i: inst.Inst{Form: inst.AndShift, Rd: 1, Rn: 2, Rm: 3, Kind: 1, By: 1, Set: 1}, in: regs{2: 6, 3: 5}, flags: "V", out: regs{1: 2}, after: "CV", cycles: 1},
	{i: inst.Inst{Form: inst.Orr, Rd: 1, Rm: 2}, in: regs{1: 1, 2: 0x80000000}, flags: "Z", out: regs{1: 0x80000001}, after: "N", cycles: 1},
	{i: inst.Inst{Form: inst.OrrImm, Rd: 1, Rn: 2, Imm: 0x3AB}, in: regs{2: 0x10000000}, flags: "", out: regs{1: 0xBBABABAB}, after: "", cycles: 1},
	{i: inst.Inst{Form: inst.OrrImm, Rd: 1, Rn: 2, Imm: 0x3AB, Set: 1}, in: regs{2: 0x10000000}, flags: "Z", out: regs{1: 0xBBABABAB}, after: "N", cycles: 1},
	{i: inst.Inst{Form: inst.OrrShift, Rd: 1, Rn: 2, Rm: 3, Kind: 2, By: 32}, in: regs{2: 0, 3: 0x80000000}, flags: "", out: regs{1: 0xFFFFFFFF}, after: "", cycles: 1},
	{i: inst.Inst{Form: inst.OrrShift, Rd: 1, Rn: 2, Rm: 3, Kind: 2, By: 32, Set: 1}, in: regs{2: 0, 3: 0x80000000}, flags: "", out: regs{1: 0xFFFFFFFF}, after: "NC", cycles: 1},
	{i: inst.Inst{Form: inst.Eor, Rd: 1, Rm: 2}, in: regs{1: 5, 2: 5}, flags: "NC", out: regs{1: 0}, after: "ZC", cycles: 1},
	{i: inst.Inst{Form: inst.EorImm, Rd: 1, Rn: 2, Imm: 0x2FF}, in: regs{2: 0xFFFFFFFF}, flags: "NZ", out: regs{1: 0x00FF00FF}, after: "NZ", cycles: 1},
	{i: inst.Inst{Form: inst.EorImm, Rd: 1, Rn: 2, Imm: 0x2FF, Set: 1}, in: regs{2: 0xFFFFFFFF}, flags: "NZ", out: regs{1: 0x00FF00FF}, after: "", cycles: 1},
	{i: inst.Inst{Form: inst.EorShift, Rd: 1, Rn: 2, Rm: 3, Kind: 3, By: 8}, in: regs{2: 0, 3: 0x12345678}, flags: "C", out: regs{1: 0x78123456}, after: "C", cycles: 1},
	{i: inst.Inst{Form: inst.EorShift, Rd: 1, Rn: 2, Rm: 3, Kind: 3, By: 8, Set: 1}, in: regs{2: 0, 3: 0x12345678}, flags: "C", out: regs{1: 0x78123456}, after: "", cycles: 1},
	{i: inst.Inst{Form: inst.Bic, Rd: 1, Rm: 2}, in: regs{1: 0xFF, 2: 0x0F}, flags: "C", out: regs{1: 0xF0}, after: "C", cycles: 1},
	{i: inst.Inst{Form: inst.BicImm, Rd: 1, Rn: 2, Imm: 0x0F}, in: regs{2: 0xFF}, flags: "Z", out: regs{1: 0xF0}, after: "Z", cycles: 1},
	{i: inst.Inst{Form: inst.BicImm, Rd: 1, Rn: 2, Imm: 0x0F, Set: 1}, in: regs{2: 0xFF}, flags: "Z", out: regs{1: 0xF0}, after: "", cycles: 1},
	{i: inst.Inst{Form: inst.BicShift, Rd: 1, Rn: 2, Rm: 3, By: 4}, in: regs{2: 0xFF, 3: 0xF}, flags: "", out: regs{1: 0x0F}, after: "", cycles: 1},
	{i: inst.Inst{Form: inst.BicShift, Rd: 1, Rn: 2, Rm: 3, By: 4, Set: 1}, in: regs{2: 0xF0, 3: 0x1000000F}, flags: "", out: regs{1: 0}, after: "ZC", cycles: 1},
	{i: inst.Inst{Form: inst.OrnImm, Rd: 1, Rn: 2, Imm: 0xFF}, in: regs{2: 1}, flags: "", out: regs{1: 0xFFFFFF01}, after: "", cycles: 1},
	{i: inst.Inst{Form: inst.OrnImm, Rd: 1, Rn: 2, Imm: 0xFF, Set: 1}, in: regs{2: 1}, flags: "CV", out: regs{1: 0xFFFFFF01}, after: "NCV", cycles: 1},
	{i: inst.Inst{Form: inst.OrnShift, Rd: 1, Rn: 2, Rm: 3, Kind: 1, By: 32}, in: regs{2: 0, 3: 1}, flags: "Z", out: regs{1: 0xFFFFFFFF}, after: "Z", cycles: 1},
	{i: inst.Inst{Form: inst.OrnShift, Rd: 1, Rn: 2, Rm: 3, Kind: 1, By: 32, Set: 1}, in: regs{2: 0, 3: 1}, flags: "C", out: regs{1: 0xFFFFFFFF}, after: "N", cycles: 1},

	{i: inst.Inst{Form: inst.Tst, Rd: 1, Rm: 2}, in: regs{1: 1, 2: 2}, flags: "NCV", out: regs{}, after: "ZCV", cycles: 1},
	{i: inst.Inst{Form: inst.TstImm, Rn: 8, Imm: 0x400}, in: regs{8: 0x80000000}, flags: "Z", out: regs{}, after: "NC", cycles: 1},
	{i: inst.Inst{Form: inst.TstShift, Rn: 8, Rm: 9, By: 1}, in: regs{8: 2, 9: 0x80000001}, flags: "NZ", out: regs{}, after: "C", cycles: 1},
	{i: inst.Inst{Form: inst.TeqImm, Rn: 8, Imm: 0x55}, in: regs{8: 0x55}, flags: "NC", out: regs{}, after: "ZC", cycles: 1},
	{i: inst.Inst{Form: inst.TeqShift, Rn: 8, Rm: 9, Kind: 3, By: 1}, in: regs{8: 0, 9: 1}, flags: "ZV", out: regs{}, after: "NCV", cycles: 1},

	{i: inst.Inst{Form: inst.MovByte, Rd: 1, Imm: 255}, flags: "NZCV", out: regs{1: 255}, after: "CV", cycles: 1},
	{i: inst.Inst{Form: inst.MovByte, Rd: 1}, flags: "", out: regs{1: 0}, after: "Z", cycles: 1},
	{i: inst.Inst{Form: inst.MovImm, Rd: 14, Imm: 0x400}, flags: "", out: regs{14: 0x80000000}, after: "", cycles: 1},
	{i: inst.Inst{Form: inst.MovImm, Rd: 14, Imm: 0x400, Set: 1}, flags: "", out: regs{14: 0x80000000}, after: "NC", cycles: 1},
	{i: inst.Inst{Form: inst.MovImm, Rd: 1, Imm: 0x3FF, Set: 1}, flags: "", out: regs{1: 0xFFFFFFFF}, after: "N", cycles: 1},
	{i: inst.Inst{Form: inst.MovShift, Rd: 1, Rm: 2, By: 0}, in: regs{2: 0x80000000}, flags: "C", out: regs{1: 0x80000000}, after: "C", cycles: 1},
	{i: inst.Inst{Form: inst.MovShift, Rd: 1, Rm: 2, By: 0, Set: 1}, in: regs{2: 0x80000000}, flags: "C", out: regs{1: 0x80000000}, after: "NC", cycles: 1},
	{i: inst.Inst{Form: inst.MovShift, Rd: 1, Rm: 2, By: 1, Set: 1}, in: regs{2: 0x80000000}, flags: "", out: regs{1: 0}, after: "ZC", cycles: 1},
	{i: inst.Inst{Form: inst.Mvn, Rd: 1, Rm: 2}, in: regs{2: 0}, flags: "ZC", out: regs{1: 0xFFFFFFFF}, after: "NC", cycles: 1},
	{i: inst.Inst{Form: inst.MvnImm, Rd: 1, Imm: 0x3FF}, flags: "N", out: regs{1: 0}, after: "N", cycles: 1},
	{i: inst.Inst{Form: inst.MvnImm, Rd: 1, Imm: 0x3FF, Set: 1}, flags: "N", out: regs{1: 0}, after: "Z", cycles: 1},
	{i: inst.Inst{Form: inst.MvnShift, Rd: 1, Rm: 2, Kind: 2, By: 1}, in: regs{2: 0xFFFFFFFE}, flags: "", out: regs{1: 0}, after: "", cycles: 1},
	{i: inst.Inst{Form: inst.MvnShift, Rd: 1, Rm: 2, Kind: 2, By: 1, Set: 1}, in: regs{2: 0xFFFFFFFE}, flags: "C", out: regs{1: 0}, after: "Z", cycles: 1},
	{i: inst.Inst{Form: inst.MovHigh, Rd: 8, Rm: 1}, in: regs{1: 0}, flags: "NC", out: regs{8: 0}, after: "NC", cycles: 1},
	{i: inst.Inst{Form: inst.MovHigh, Rd: 13, Rm: 1}, in: regs{1: ram + 7}, flags: "", out: regs{13: ram + 4}, after: "", cycles: 1},
	{i: inst.Inst{Form: inst.MovHigh, Rd: 13, Rm: 13}, in: regs{13: 3}, flags: "", out: regs{13: 0}, after: "", cycles: 1},
	{i: inst.Inst{Form: inst.MovHigh, Rd: 14, Rm: 13}, in: regs{13: ram + 3}, flags: "", out: regs{14: ram + 3}, after: "", cycles: 1},
	{i: inst.Inst{Form: inst.Movw, Rd: 8, Imm: 0xFEDC}, flags: "Z", out: regs{8: 0xFEDC}, after: "Z", cycles: 1},
	{i: inst.Inst{Form: inst.Movt, Rd: 8, Imm: 0xFEDC}, in: regs{8: 0x12345678}, flags: "Z", out: regs{8: 0xFEDC5678}, after: "Z", cycles: 1},
	{i: inst.Inst{Form: inst.Movt, Rd: 8}, in: regs{8: 0xFFFFFFFF}, flags: "", out: regs{8: 0xFFFF}, after: "", cycles: 1},
}

// P7.2: products, quotients and noughts ahead.
func TestProducts(t *testing.T) { checkAll(t, products) }

var products = []deed{
	{i: inst.Inst{Form: inst.Muls, Rd: 1, Rm: 2}, in: regs{1: 0x10000, 2: 0x10000}, flags: "NCV", out: regs{1: 0}, after: "ZCV", cycles: 1},
	{i: inst.Inst{Form: inst.Muls, Rd: 1, Rm: 2}, in: regs{1: 0xFFFFFFFF, 2: 3}, flags: "Z", out: regs{1: 0xFFFFFFFD}, after: "N", cycles: 1},
	{i: inst.Inst{Form: inst.Mul, Rd: 8, Rn: 9, Rm: 10}, in: regs{9: 0x10001, 10: 0x10001}, flags: "NZ", out: regs{8: 0x20001}, after: "NZ", cycles: 1},
	{i: inst.Inst{Form: inst.Mla, Rd: 8, Rn: 9, Rm: 10, Ra: 11}, in: regs{9: 6, 10: 7, 11: 0xFFFFFFFF}, flags: "Z", out: regs{8: 41}, after: "Z", cycles: 2},
	{i: inst.Inst{Form: inst.Mls, Rd: 8, Rn: 9, Rm: 10, Ra: 11}, in: regs{9: 6, 10: 7, 11: 41}, flags: "C", out: regs{8: 0xFFFFFFFF}, after: "C", cycles: 2},
	{i: inst.Inst{Form: inst.Mla, Rd: 8, Rn: 8, Rm: 8, Ra: 8}, in: regs{8: 5}, flags: "", out: regs{8: 30}, after: "", cycles: 2},
	{i: inst.Inst{Form: inst.Umull, Rd: 1, Ra: 2, Rn: 3, Rm: 4}, in: regs{3: 0xFFFFFFFF, 4: 0xFFFFFFFF}, flags: "ZC", out: regs{1: 1, 2: 0xFFFFFFFE}, after: "ZC", cycles: 1},
	{i: inst.Inst{Form: inst.Umull, Rd: 1, Ra: 2, Rn: 2, Rm: 1}, in: regs{1: 0x10000, 2: 0x30000}, flags: "", out: regs{1: 0, 2: 3}, after: "", cycles: 1},
	{i: inst.Inst{Form: inst.Umlal, Rd: 1, Ra: 2, Rn: 3, Rm: 4}, in: regs{1: 1, 2: 9, 3: 0xFFFFFFFF, 4: 1}, flags: "", out: regs{1: 0, 2: 10}, after: "", cycles: 1},
	{i: inst.Inst{Form: inst.Umlal, Rd: 1, Ra: 2, Rn: 3, Rm: 4}, in: regs{1: 1, 2: 9, 3: 0xFFFFFFFE, 4: 1}, flags: "N", out: regs{1: 0xFFFFFFFF, 2: 9}, after: "N", cycles: 1},
	{i: inst.Inst{Form: inst.Umlal, Rd: 1, Ra: 2, Rn: 3, Rm: 4}, in: regs{1: 0xFFFFFFFF, 2: 0xFFFFFFFF, 3: 1, 4: 1}, flags: "", out: regs{1: 0, 2: 0}, after: "", cycles: 1},
	{i: inst.Inst{Form: inst.Umlal, Rd: 1, Ra: 2, Rn: 1, Rm: 2}, in: regs{1: 0x10000, 2: 0x30000}, flags: "", out: regs{1: 0x10000, 2: 0x30003}, after: "", cycles: 1},
	{i: inst.Inst{Form: inst.Udiv, Rd: 8, Rn: 9, Rm: 10}, in: regs{9: 100, 10: 7}, flags: "NZCV", out: regs{8: 14}, after: "NZCV", cycles: 4},
	{i: inst.Inst{Form: inst.Udiv, Rd: 8, Rn: 9, Rm: 10}, in: regs{9: 100, 10: 0}, flags: "", out: regs{8: 0}, after: "", cycles: 2},
	{i: inst.Inst{Form: inst.Udiv, Rd: 8, Rn: 9, Rm: 10}, in: regs{9: 0, 10: 0}, flags: "", out: regs{8: 0}, after: "", cycles: 2},
	{i: inst.Inst{Form: inst.Udiv, Rd: 8, Rn: 9, Rm: 10}, in: regs{9: 0xFFFFFFFF, 10: 1}, flags: "", out: regs{8: 0xFFFFFFFF}, after: "", cycles: 10},
	{i: inst.Inst{Form: inst.Udiv, Rd: 8, Rn: 9, Rm: 10}, in: regs{9: 6, 10: 7}, flags: "", out: regs{8: 0}, after: "", cycles: 3},
	{i: inst.Inst{Form: inst.Udiv, Rd: 8, Rn: 9, Rm: 10}, in: regs{9: 6, 10: 8}, flags: "", out: regs{8: 0}, after: "", cycles: 2},
	// What is counted hangs on what it finds, be Rd among it or not.
	{i: inst.Inst{Form: inst.Udiv, Rd: 9, Rn: 9, Rm: 10}, in: regs{9: 0x80000000, 10: 1 << 27}, flags: "", out: regs{9: 16}, after: "", cycles: 4},
	{i: inst.Inst{Form: inst.Udiv, Rd: 10, Rn: 9, Rm: 10}, in: regs{9: 0x80000000, 10: 1 << 23}, flags: "", out: regs{10: 256}, after: "", cycles: 5},
	{i: inst.Inst{Form: inst.Clz, Rd: 8, Rm: 9}, in: regs{9: 0}, flags: "N", out: regs{8: 32}, after: "N", cycles: 1},
	{i: inst.Inst{Form: inst.Clz, Rd: 8, Rm: 9}, in: regs{9: 1}, flags: "Z", out: regs{8: 31}, after: "Z", cycles: 1},
	{i: inst.Inst{Form: inst.Clz, Rd: 9, Rm: 9}, in: regs{9: 0x80000000}, flags: "", out: regs{9: 0}, after: "", cycles: 1},
}

// P7.2: loads and stores of one word.
func TestWords(t *testing.T) { checkAll(t, loadsAndStores) }

var loadsAndStores = []deed{
	// The word of flash at 8 is 0x0C0B0A09, that at 12 is 0x100F0E0D.
	{i: inst.Inst{Form: inst.LdrLit, Rd: 1, Imm: 4}, at: 0, out: regs{1: 0x0C0B0A09}, data: flash + 8, words: 1, cycles: 2},
	{i: inst.Inst{Form: inst.LdrLit, Rd: 1, Imm: 4}, at: 2, out: regs{1: 0x0C0B0A09}, data: flash + 8, words: 1, cycles: 2},
	{i: inst.Inst{Form: inst.LdrLit, Rd: 1, Imm: 4}, at: 4, flags: "NZCV", out: regs{1: 0x100F0E0D}, after: "NZCV", data: flash + 12, words: 1, cycles: 2},
	{i: inst.Inst{Form: inst.LdrLit, Rd: 7}, at: 6, out: regs{7: 0x0C0B0A09}, data: flash + 8, words: 1, cycles: 2},
	{i: inst.Inst{Form: inst.LdrReg, Rd: 1, Rn: 2, Rm: 3}, in: regs{2: ram, 3: 8}, ram: words{ram + 8: 99}, flags: "Z", out: regs{1: 99}, after: "Z", data: ram + 8, words: 1, cycles: 2},
	{i: inst.Inst{Form: inst.LdrReg, Rd: 2, Rn: 2, Rm: 3}, in: regs{2: ram + 8, 3: 0xFFFFFFF8}, ram: words{ram: 98}, out: regs{2: 98}, data: ram, words: 1, cycles: 2},
	{i: inst.Inst{Form: inst.LdrReg, Rd: 1, Rn: 2, Rm: 3}, in: regs{2: 8, 3: flash}, out: regs{1: 0x0C0B0A09}, data: flash + 8, words: 1, cycles: 2},
	{i: inst.Inst{Form: inst.LdrOff, Rd: 1, Rn: 2, Imm: 124}, in: regs{2: ramEnd - 128}, ram: words{ramEnd - 4: 97}, out: regs{1: 97}, data: ramEnd - 4, words: 1, cycles: 2},
	{i: inst.Inst{Form: inst.LdrSp, Rd: 1, Imm: 1020}, in: regs{13: ram}, ram: words{ram + 1020: 96}, out: regs{1: 96}, data: ram + 1020, words: 1, cycles: 2},
	{i: inst.Inst{Form: inst.LdrWide, Rd: 14, Rn: 13, Imm: 4092}, in: regs{13: ram}, ram: words{ram + 4092: 95}, out: regs{14: 95}, data: ram + 4092, words: 1, cycles: 2},
	{i: inst.Inst{Form: inst.LdrWide, Rd: 8, Rn: 8, Imm: 3}, in: regs{8: ram + 1}, ram: words{ram + 4: 94}, out: regs{8: 94}, data: ram + 4, words: 1, cycles: 2},
	{i: inst.Inst{Form: inst.LdrIndex, Rd: 8, Rn: 13, Rm: 9}, in: regs{13: ram, 9: 12}, ram: words{ram + 12: 93}, out: regs{8: 93}, data: ram + 12, words: 1, cycles: 2},
	{i: inst.Inst{Form: inst.LdrIndex, Rd: 8, Rn: 10, Rm: 9, By: 1}, in: regs{10: ram, 9: 12}, ram: words{ram + 24: 92}, out: regs{8: 92}, data: ram + 24, words: 1, cycles: 2},
	{i: inst.Inst{Form: inst.LdrIndex, Rd: 8, Rn: 10, Rm: 9, By: 2}, in: regs{10: ram, 9: 12}, ram: words{ram + 48: 91}, out: regs{8: 91}, data: ram + 48, words: 1, cycles: 2},
	{i: inst.Inst{Form: inst.LdrIndex, Rd: 8, Rn: 10, Rm: 9, By: 3}, in: regs{10: ram, 9: 12}, ram: words{ram + 96: 90}, out: regs{8: 90}, data: ram + 96, words: 1, cycles: 2},
	// What goes out at the upper end of the index has no part in it.
	{i: inst.Inst{Form: inst.LdrIndex, Rd: 8, Rn: 10, Rm: 9, By: 3}, in: regs{10: ram, 9: 0xE0000001}, ram: words{ram + 8: 89}, out: regs{8: 89}, data: ram + 8, words: 1, cycles: 2},

	{i: inst.Inst{Form: inst.StrReg, Rd: 1, Rn: 2, Rm: 3}, in: regs{1: 88, 2: ram, 3: 8}, flags: "NZCV", after: "NZCV", stored: words{ram + 8: 88}, data: ram + 8, words: 1, cycles: 2},
	{i: inst.Inst{Form: inst.StrReg, Rd: 2, Rn: 2, Rm: 3}, in: regs{2: ram, 3: 4}, stored: words{ram + 4: ram}, data: ram + 4, words: 1, cycles: 2},
	{i: inst.Inst{Form: inst.StrOff, Rd: 1, Rn: 2, Imm: 124}, in: regs{1: 87, 2: ram}, ram: words{ram + 124: 5, ram + 128: 6}, stored: words{ram + 124: 87}, data: ram + 124, words: 1, cycles: 2},
	{i: inst.Inst{Form: inst.StrSp, Rd: 1, Imm: 1020}, in: regs{1: 86, 13: ram}, stored: words{ram + 1020: 86}, data: ram + 1020, words: 1, cycles: 2},
	{i: inst.Inst{Form: inst.StrWide, Rd: 14, Rn: 13, Imm: 4092}, in: regs{14: 85, 13: ram}, stored: words{ram + 4092: 85}, data: ram + 4092, words: 1, cycles: 2},
	{i: inst.Inst{Form: inst.StrIndex, Rd: 8, Rn: 13, Rm: 9}, in: regs{8: 84, 13: ram, 9: 12}, stored: words{ram + 12: 84}, data: ram + 12, words: 1, cycles: 2},
	{i: inst.Inst{Form: inst.StrIndex, Rd: 8, Rn: 10, Rm: 9, By: 1}, in: regs{8: 83, 10: ram, 9: 12}, stored: words{ram + 24: 83}, data: ram + 24, words: 1, cycles: 2},
	{i: inst.Inst{Form: inst.StrIndex, Rd: 8, Rn: 10, Rm: 9, By: 2}, in: regs{8: 82, 10: ram, 9: 12}, stored: words{ram + 48: 82}, data: ram + 48, words: 1, cycles: 2},
	{i: inst.Inst{Form: inst.StrIndex, Rd: 8, Rn: 10, Rm: 9, By: 3}, in: regs{8: 81, 10: ram, 9: 12}, stored: words{ram + 96: 81}, data: ram + 96, words: 1, cycles: 2},
}

// P7.2: registers on the stack.
func TestStack(t *testing.T) { checkAll(t, pushesAndPops) }

var pushesAndPops = []deed{
	{i: inst.Inst{Form: inst.Push, Regs: 1 << 3}, in: regs{3: 30}, flags: "C", out: regs{13: ram + 252}, after: "C", stored: words{ram + 252: 30}, data: ram + 252, words: 1, cycles: 2},
	{i: inst.Inst{Form: inst.Push, Regs: 1 << 14}, in: regs{14: 140}, out: regs{13: ram + 252}, stored: words{ram + 252: 140}, data: ram + 252, words: 1, cycles: 2},
	{i: inst.Inst{Form: inst.Push, Regs: 0x40FF},
		in:   regs{0: 10, 1: 11, 2: 12, 3: 13, 4: 14, 5: 15, 6: 16, 7: 17, 13: ram + 36, 14: 18},
		out:  regs{13: ram},
		data: ram, words: 9, cycles: 10,
		stored: words{ram: 10, ram + 4: 11, ram + 8: 12, ram + 12: 13, ram + 16: 14, ram + 20: 15, ram + 24: 16, ram + 28: 17, ram + 32: 18}},
	{i: inst.Inst{Form: inst.Push, Regs: 0x4082}, in: regs{1: 10, 7: 17, 13: ramEnd, 14: 18}, out: regs{13: ramEnd - 12}, data: ramEnd - 12, words: 3, cycles: 4,
		stored: words{ramEnd - 12: 10, ramEnd - 8: 17, ramEnd - 4: 18}},
	{i: inst.Inst{Form: inst.Pop, Regs: 1 << 3}, ram: words{ram + 256: 30}, flags: "NZ", out: regs{3: 30, 13: ram + 260}, after: "NZ", data: ram + 256, words: 1, cycles: 2},
	{i: inst.Inst{Form: inst.Pop, Regs: 0x80FF},
		in:   regs{13: ramEnd - 36},
		ram:  words{ramEnd - 36: 20, ramEnd - 32: 21, ramEnd - 28: 22, ramEnd - 24: 23, ramEnd - 20: 24, ramEnd - 16: 25, ramEnd - 12: 26, ramEnd - 8: 27, ramEnd - 4: flash + 0x21},
		out:  regs{0: 20, 1: 21, 2: 22, 3: 23, 4: 24, 5: 25, 6: 26, 7: 27, 13: ramEnd, 15: flash + 0x20},
		data: ramEnd - 36, words: 9, cycles: 12},
	{i: inst.Inst{Form: inst.Pop, Regs: 0x00FF},
		in:   regs{13: flash + 16},
		out:  regs{0: 0x14131211, 1: 0x18171615, 2: 0x1C1B1A19, 3: 0x201F1E1D, 4: 0x24232221, 5: 0x28272625, 6: 0x2C2B2A29, 7: 0x302F2E2D, 13: flash + 48},
		data: flash + 16, words: 8, cycles: 9},
	{i: inst.Inst{Form: inst.Pop, Regs: 1 << 15}, ram: words{ram + 256: flash + 0x30}, out: regs{13: ram + 260, 15: flash + 0x30}, data: ram + 256, words: 1, cycles: 4},
	{i: inst.Inst{Form: inst.Pop, Regs: 0x8001}, ram: words{ram + 256: 7, ram + 260: api.HaltAt}, out: regs{0: 7, 13: ram + 264}, data: ram + 256, words: 2, cycles: 5, home: true},
	{i: inst.Inst{Form: inst.Pop, Regs: 0x8001}, ram: words{ram + 256: 7, ram + 260: api.HaltAt + 1}, out: regs{0: 7, 13: ram + 264}, data: ram + 256, words: 2, cycles: 5, home: true},
	{i: inst.Inst{Form: inst.Pop, Regs: 1 << 15}, ram: words{ram + 256: api.HaltAt - 1}, out: regs{13: ram + 260, 15: api.HaltAt - 2}, data: ram + 256, words: 1, cycles: 4},
}

// P7.2: branches, ways back, traps, and nothing.
func TestBranches(t *testing.T) { checkAll(t, branches) }

var branches = []deed{
	{i: inst.Inst{Form: inst.Bcond, Cond: 0, Imm: 254}, at: 2, flags: "Z", out: regs{15: flash + 2 + 4 + 254}, after: "Z", cycles: 3},
	{i: inst.Inst{Form: inst.Bcond, Cond: 0, Imm: -256}, at: 2, flags: "Z", out: regs{15: flash + 2 + 4 - 256}, after: "Z", cycles: 3},
	{i: inst.Inst{Form: inst.Bcond, Cond: 0, Imm: 254}, at: 2, flags: "NCV", out: regs{15: flash + 4}, after: "NCV", cycles: 1},
	// Taken or not, it goes on behind itself: what is counted differs.
	{i: inst.Inst{Form: inst.Bcond, Cond: 1, Imm: -2}, out: regs{15: flash + 2}, cycles: 3},
	{i: inst.Inst{Form: inst.Bcond, Cond: 1, Imm: -2}, flags: "Z", after: "Z", out: regs{15: flash + 2}, cycles: 1},
	{i: inst.Inst{Form: inst.B, Imm: 2046}, at: 6, flags: "NZCV", out: regs{15: flash + 6 + 4 + 2046}, after: "NZCV", cycles: 3},
	{i: inst.Inst{Form: inst.B, Imm: -2048}, out: regs{15: flash + 4 - 2048}, cycles: 3},
	{i: inst.Inst{Form: inst.B}, out: regs{15: flash + 4}, cycles: 3},
	{i: inst.Inst{Form: inst.BcondWide, Cond: 2, Imm: 1<<20 - 2}, flags: "C", out: regs{15: flash + 4 + 1<<20 - 2}, after: "C", cycles: 3},
	{i: inst.Inst{Form: inst.BcondWide, Cond: 2, Imm: -1 << 20}, at: 14, flags: "C", out: regs{15: flash + 14 + 4 - 1<<20}, after: "C", cycles: 3},
	{i: inst.Inst{Form: inst.BcondWide, Cond: 2, Imm: -1 << 20}, flags: "NZV", out: regs{15: flash + 4}, after: "NZV", cycles: 1},
	{i: inst.Inst{Form: inst.BcondWide, Cond: 3}, out: regs{15: flash + 4}, cycles: 3},
	{i: inst.Inst{Form: inst.BWide, Imm: 1<<24 - 2}, out: regs{15: flash + 4 + 1<<24 - 2}, cycles: 3},
	{i: inst.Inst{Form: inst.BWide, Imm: -1 << 24}, at: 30, out: regs{15: flash + 30 + 4 - 1<<24}, cycles: 3},

	{i: inst.Inst{Form: inst.Bx, Rm: 14}, in: regs{14: flash + 0x101}, flags: "NZCV", out: regs{15: flash + 0x100}, after: "NZCV", cycles: 3},
	{i: inst.Inst{Form: inst.Bx, Rm: 14}, in: regs{14: flash + 0x100}, out: regs{15: flash + 0x100}, cycles: 3},
	{i: inst.Inst{Form: inst.Bx, Rm: 13}, in: regs{13: 3}, out: regs{15: 2}, cycles: 3},
	{i: inst.Inst{Form: inst.Bx, Rm: 0}, in: regs{0: api.HaltAt}, cycles: 3, home: true},
	{i: inst.Inst{Form: inst.Bx, Rm: 0}, in: regs{0: api.HaltAt + 1}, cycles: 3, home: true},
	{i: inst.Inst{Form: inst.Bx, Rm: 0}, in: regs{0: api.HaltAt - 1}, out: regs{15: api.HaltAt - 2}, cycles: 3},
	{i: inst.Inst{Form: inst.Bx, Rm: 0}, in: regs{0: 0}, out: regs{15: 0}, cycles: 3},

	{i: inst.Inst{Form: inst.Bkpt}, flags: "V", after: "V", cycles: 1, trapped: true},
	{i: inst.Inst{Form: inst.Bkpt, Imm: 1}, cycles: 1, trapped: true},
	{i: inst.Inst{Form: inst.Bkpt, Imm: 255}, cycles: 1, trapped: true},
	{i: inst.Inst{Form: inst.Nop}, flags: "NZCV", after: "NZCV", cycles: 1},
	{i: inst.Inst{Form: inst.Nop}, cycles: 1},
	// Two lines, of a wide one that begins in the last half of the first.
	{i: inst.Inst{Form: inst.Movw, Rd: 1, Imm: 7}, at: 14, out: regs{1: 7}, cycles: 1},
	{i: inst.Inst{Form: inst.Movw, Rd: 1, Imm: 7}, at: 12, out: regs{1: 7}, cycles: 1},
}

// Each of the hundred forms is among the deeds above.
func TestAllFormsAreThere(t *testing.T) {
	there := map[inst.Form]bool{}
	for _, list := range [][]deed{shifts, sums, bitwise, products, loadsAndStores, pushesAndPops, branches} {
		for _, d := range list {
			there[d.i.Form] = true
		}
	}
	for f := inst.LslImm; f <= inst.BWide; f++ {
		if !there[f] {
			t.Errorf("no deed of the form %d", f)
		}
	}
}
