package inst_test

import (
	"testing"

	"remontoire/inst"
)

// edges are instructions at both sides of the edges that the chapter names, written out.
var edges = []struct {
	right, wrong inst.Inst
}{
	{inst.Inst{Form: inst.AddReg, Rd: 1, Rn: 2, Rm: 3}, inst.Inst{Form: inst.AddReg, Rd: 8, Rn: 2, Rm: 3}},
	{inst.Inst{Form: inst.LslImm}, inst.Inst{Form: inst.LslImm, Imm: -1}},
	{inst.Inst{Form: inst.LslImm, Imm: 31}, inst.Inst{Form: inst.LslImm, Imm: 32}},
	{inst.Inst{Form: inst.LsrImm, Imm: 1}, inst.Inst{Form: inst.LsrImm}},
	{inst.Inst{Form: inst.LsrImm, Imm: 32}, inst.Inst{Form: inst.LsrImm, Imm: 33}},
	{inst.Inst{Form: inst.AsrImm, Imm: 1}, inst.Inst{Form: inst.AsrImm}},
	{inst.Inst{Form: inst.AsrImm, Imm: 32}, inst.Inst{Form: inst.AsrImm, Imm: 33}},
	{inst.Inst{Form: inst.SubTiny, Imm: 7}, inst.Inst{Form: inst.SubTiny, Imm: 8}},
	{inst.Inst{Form: inst.MovByte, Rd: 7, Imm: 255}, inst.Inst{Form: inst.MovByte, Rd: 7, Imm: 256}},
	{inst.Inst{Form: inst.Mvn, Rd: 7, Rm: 7}, inst.Inst{Form: inst.Mvn, Rd: 7, Rm: 8}},
	{inst.Inst{Form: inst.And, Rd: 7, Rm: 7}, inst.Inst{Form: inst.And, Rd: 7, Rn: 7, Rm: 7}},
	{inst.Inst{Form: inst.AddHigh, Rd: 7, Rm: 7}, inst.Inst{Form: inst.CmpHigh, Rd: 7, Rm: 7}},
	{inst.Inst{Form: inst.CmpHigh, Rd: 8, Rm: 7}, inst.Inst{Form: inst.CmpHigh, Rd: 15, Rm: 7}},
	{inst.Inst{Form: inst.CmpHigh, Rd: 7, Rm: 8}, inst.Inst{Form: inst.CmpHigh}},
	{inst.Inst{Form: inst.MovHigh, Rd: 13, Rm: 14}, inst.Inst{Form: inst.MovHigh, Rd: 13, Rm: 15}},
	{inst.Inst{Form: inst.Bx, Rm: 14}, inst.Inst{Form: inst.Bx, Rm: 15}},
	{inst.Inst{Form: inst.LdrLit, Rd: 7, Imm: 1020}, inst.Inst{Form: inst.LdrLit, Rd: 7, Imm: 1024}},
	{inst.Inst{Form: inst.StrSp, Imm: 4}, inst.Inst{Form: inst.StrSp, Imm: 2}},
	{inst.Inst{Form: inst.AddSp}, inst.Inst{Form: inst.AddSp, Imm: -4}},
	{inst.Inst{Form: inst.StrOff, Rd: 7, Rn: 7, Imm: 124}, inst.Inst{Form: inst.StrOff, Rd: 7, Rn: 7, Imm: 128}},
	{inst.Inst{Form: inst.LdrOff, Imm: 4}, inst.Inst{Form: inst.LdrOff, Imm: 5}},
	{inst.Inst{Form: inst.IncSp, Imm: 508}, inst.Inst{Form: inst.IncSp, Imm: 512}},
	{inst.Inst{Form: inst.DecSp, Imm: 504}, inst.Inst{Form: inst.DecSp, Imm: 506}},
	{inst.Inst{Form: inst.Push, Regs: 0x40FF}, inst.Inst{Form: inst.Push, Regs: 0x80FF}},
	{inst.Inst{Form: inst.Push, Regs: 0x4000}, inst.Inst{Form: inst.Push}},
	{inst.Inst{Form: inst.Push, Regs: 0x80}, inst.Inst{Form: inst.Push, Regs: 0x100}},
	{inst.Inst{Form: inst.Pop, Regs: 0x80FF}, inst.Inst{Form: inst.Pop, Regs: 0x40FF}},
	{inst.Inst{Form: inst.Pop, Regs: 0x8000}, inst.Inst{Form: inst.Pop, Regs: 0xC000}},
	{inst.Inst{Form: inst.Pop, Regs: 1}, inst.Inst{Form: inst.Pop}},
	{inst.Inst{Form: inst.Nop}, inst.Inst{Form: inst.Nop, Imm: 1}},
	{inst.Inst{Form: inst.Bkpt, Imm: 255}, inst.Inst{Form: inst.Bkpt, Imm: 256}},
	{inst.Inst{Form: inst.Bcond, Cond: 13, Imm: 254}, inst.Inst{Form: inst.Bcond, Cond: 14, Imm: 254}},
	{inst.Inst{Form: inst.Bcond, Imm: -256}, inst.Inst{Form: inst.Bcond, Imm: -258}},
	{inst.Inst{Form: inst.Bcond, Imm: 252}, inst.Inst{Form: inst.Bcond, Imm: 256}},
	{inst.Inst{Form: inst.B, Imm: -2048}, inst.Inst{Form: inst.B, Imm: -2050}},
	{inst.Inst{Form: inst.B, Imm: 2046}, inst.Inst{Form: inst.B, Imm: 2048}},
	{inst.Inst{Form: inst.B, Imm: -2}, inst.Inst{Form: inst.B, Imm: -1}},
	{inst.Inst{Form: inst.Movw, Rd: 14, Imm: 65535}, inst.Inst{Form: inst.Movw, Rd: 14, Imm: 65536}},
	{inst.Inst{Form: inst.Movt, Rd: 12}, inst.Inst{Form: inst.Movt, Rd: 13}},
	{inst.Inst{Form: inst.AndImm, Imm: 0xFF}, inst.Inst{Form: inst.AndImm, Imm: 0x100}},
	{inst.Inst{Form: inst.RsbImm, Imm: 0x201, Set: 1}, inst.Inst{Form: inst.RsbImm, Imm: 0x200, Set: 1}},
	{inst.Inst{Form: inst.MovImm, Imm: 0x301, Set: 1}, inst.Inst{Form: inst.MovImm, Imm: 0x300, Set: 1}},
	{inst.Inst{Form: inst.MvnImm, Imm: 0x400, Set: 1}, inst.Inst{Form: inst.MvnImm, Imm: 0x400, Set: 2}},
	{inst.Inst{Form: inst.TstImm, Rn: 14, Imm: 4095}, inst.Inst{Form: inst.TstImm, Rn: 14, Imm: 4096}},
	{inst.Inst{Form: inst.CmpImm, Rn: 12}, inst.Inst{Form: inst.CmpImm, Rn: 12, Set: 1}},
	{inst.Inst{Form: inst.OrnShift, Rd: 14, Rn: 14, Rm: 14, By: 31}, inst.Inst{Form: inst.OrnShift, Rd: 14, Rn: 14, Rm: 14, By: 32}},
	{inst.Inst{Form: inst.MovShift, Kind: 1, By: 32, Set: 1}, inst.Inst{Form: inst.MovShift, Kind: 1, Set: 1}},
	{inst.Inst{Form: inst.MvnShift, Kind: 2, By: 32}, inst.Inst{Form: inst.MvnShift, Kind: 2, By: 33}},
	{inst.Inst{Form: inst.TeqShift, Kind: 3, By: 31}, inst.Inst{Form: inst.TeqShift, Kind: 3, By: 32}},
	{inst.Inst{Form: inst.CmnShift, Kind: 3, By: 1}, inst.Inst{Form: inst.CmnShift, Kind: 4, By: 1}},
	{inst.Inst{Form: inst.AddWide, Imm: 4095}, inst.Inst{Form: inst.AddWide, Imm: 4096}},
	{inst.Inst{Form: inst.SubWide, Rn: 12, Imm: 0x100}, inst.Inst{Form: inst.SubWide, Rn: 13, Imm: 0x100}},
	{inst.Inst{Form: inst.StrWide, Rd: 14, Rn: 13}, inst.Inst{Form: inst.StrWide, Rd: 13, Rn: 14}},
	{inst.Inst{Form: inst.LdrWide, Rn: 14, Imm: 4095}, inst.Inst{Form: inst.LdrWide, Rn: 15, Imm: 4095}},
	{inst.Inst{Form: inst.StrIndex, Rn: 13, Rm: 14, By: 3}, inst.Inst{Form: inst.StrIndex, Rn: 13, Rm: 13, By: 3}},
	{inst.Inst{Form: inst.LdrIndex, By: 3}, inst.Inst{Form: inst.LdrIndex, Kind: 1, By: 3}},
	{inst.Inst{Form: inst.RorWide, Rd: 14, Rn: 14, Rm: 14, Set: 1}, inst.Inst{Form: inst.RorWide, Rd: 14, Rn: 14, Rm: 14, Set: -1}},
	{inst.Inst{Form: inst.Mul, Rd: 1, Rn: 1, Rm: 1}, inst.Inst{Form: inst.Mul, Rd: 1, Rn: 1, Rm: 1, Ra: 1}},
	{inst.Inst{Form: inst.Udiv, Rd: 14}, inst.Inst{Form: inst.Udiv, Rd: 14, Set: 1}},
	{inst.Inst{Form: inst.Mla, Ra: 14}, inst.Inst{Form: inst.Mla, Ra: 13}},
	{inst.Inst{Form: inst.Mls, Rd: 5, Ra: 5}, inst.Inst{Form: inst.Mls, Rd: 5, Ra: 15}},
	{inst.Inst{Form: inst.Umull, Rd: 5, Ra: 6}, inst.Inst{Form: inst.Umull, Rd: 5, Ra: 5}},
	{inst.Inst{Form: inst.Umlal, Rn: 5, Rm: 5, Ra: 5}, inst.Inst{Form: inst.Umlal, Rn: 5, Rm: 5}},
	{inst.Inst{Form: inst.Clz, Rd: 14, Rm: 14}, inst.Inst{Form: inst.Clz, Rd: 14, Rn: 14, Rm: 14}},
	{inst.Inst{Form: inst.BcondWide, Cond: 13, Imm: 1<<20 - 2}, inst.Inst{Form: inst.BcondWide, Cond: 13, Imm: 1 << 20}},
	{inst.Inst{Form: inst.BcondWide, Imm: -1 << 20}, inst.Inst{Form: inst.BcondWide, Imm: -1<<20 - 2}},
	{inst.Inst{Form: inst.BWide, Imm: 1<<24 - 2}, inst.Inst{Form: inst.BWide, Imm: 1 << 24}},
	{inst.Inst{Form: inst.BWide, Imm: -1 << 24}, inst.Inst{Form: inst.BWide, Imm: -1<<24 - 2}},
	{inst.Inst{Form: inst.BWide, Imm: 2}, inst.Inst{Form: inst.BWide, Cond: 1, Imm: 2}},
}

// P3.2: right instructions at the edges, and wrong ones just beyond them.
func TestRightAtEdges(t *testing.T) {
	for _, x := range edges {
		if !x.right.Right() {
			t.Errorf("%+v isn't right", x.right)
		}
		if x.wrong.Right() {
			t.Errorf("%+v is right", x.wrong)
		}
	}
}
