package code_test

import (
	"bytes"
	"math"
	"testing"

	"remontoire/api"
	"remontoire/code"
	"remontoire/inst"
)

// edges are instructions at the edges that the chapter names, with their bits written out.
var edges = []struct {
	i    inst.Inst
	word uint32
}{
	// The chapter's examples.
	{inst.Inst{Form: inst.AddReg, Rd: 1, Rn: 2, Rm: 3}, 0x18d1},
	{inst.Inst{Form: inst.BWide}, 0xf000b800},
	// Imm 32 of a shift is written as 0; LSL's 0 is 0.
	{inst.Inst{Form: inst.LslImm, Rd: 1, Rm: 2}, 0x0011},
	{inst.Inst{Form: inst.LslImm, Rd: 1, Rm: 2, Imm: 31}, 0x07d1},
	{inst.Inst{Form: inst.LsrImm, Rd: 1, Rm: 2, Imm: 1}, 0x0851},
	{inst.Inst{Form: inst.LsrImm, Rd: 1, Rm: 2, Imm: 31}, 0x0fd1},
	{inst.Inst{Form: inst.LsrImm, Rd: 1, Rm: 2, Imm: 32}, 0x0811},
	{inst.Inst{Form: inst.AsrImm, Rd: 7, Rm: 7, Imm: 1}, 0x107f},
	{inst.Inst{Form: inst.AsrImm, Rd: 7, Rm: 7, Imm: 32}, 0x103f},
	// By 32 of LSR and ASR, and how far the others go.
	{inst.Inst{Form: inst.AddShift, Rd: 1, Rn: 2, Rm: 3}, 0xeb020103},
	{inst.Inst{Form: inst.AddShift, Rd: 1, Rn: 2, Rm: 3, By: 31}, 0xeb0271c3},
	{inst.Inst{Form: inst.AddShift, Rd: 1, Rn: 2, Rm: 3, Kind: 1, By: 31}, 0xeb0271d3},
	{inst.Inst{Form: inst.AddShift, Rd: 1, Rn: 2, Rm: 3, Kind: 1, By: 32}, 0xeb020113},
	{inst.Inst{Form: inst.AddShift, Rd: 1, Rn: 2, Rm: 3, Kind: 2, By: 1}, 0xeb020163},
	{inst.Inst{Form: inst.AddShift, Rd: 1, Rn: 2, Rm: 3, Kind: 2, By: 32, Set: 1}, 0xeb120123},
	{inst.Inst{Form: inst.AddShift, Rd: 1, Rn: 2, Rm: 3, Kind: 3, By: 1}, 0xeb020173},
	{inst.Inst{Form: inst.AddShift, Rd: 1, Rn: 2, Rm: 3, Kind: 3, By: 31}, 0xeb0271f3},
	{inst.Inst{Form: inst.MovShift, Rd: 1, Rm: 2, Kind: 1, By: 32}, 0xea4f0112},
	{inst.Inst{Form: inst.CmpShift, Rn: 1, Rm: 2, Kind: 2, By: 32}, 0xebb10f22},
	// Branches at their first and last Imm, and just below nought.
	{inst.Inst{Form: inst.Bcond, Imm: -256}, 0xd080},
	{inst.Inst{Form: inst.Bcond, Imm: -2}, 0xd0ff},
	{inst.Inst{Form: inst.Bcond, Cond: 13, Imm: 254}, 0xdd7f},
	{inst.Inst{Form: inst.B, Imm: -2048}, 0xe400},
	{inst.Inst{Form: inst.B, Imm: -2}, 0xe7ff},
	{inst.Inst{Form: inst.B, Imm: 2046}, 0xe3ff},
	{inst.Inst{Form: inst.BcondWide, Imm: -1 << 20}, 0xf4008000},
	{inst.Inst{Form: inst.BcondWide, Imm: -2}, 0xf43fafff},
	{inst.Inst{Form: inst.BcondWide, Cond: 13, Imm: 1<<20 - 2}, 0xf37fafff},
	{inst.Inst{Form: inst.BcondWide, Imm: 1 << 18}, 0xf000a000},
	{inst.Inst{Form: inst.BcondWide, Imm: 1 << 19}, 0xf0008800},
	{inst.Inst{Form: inst.BWide, Imm: -1 << 24}, 0xf4009000},
	{inst.Inst{Form: inst.BWide, Imm: -2}, 0xf7ffbfff},
	{inst.Inst{Form: inst.BWide, Imm: 1<<24 - 2}, 0xf3ff97ff},
	// The bits 22 and 23 of a wide jump, each alone and both, with both signs.
	{inst.Inst{Form: inst.BWide, Imm: 1 << 22}, 0xf000b000},
	{inst.Inst{Form: inst.BWide, Imm: 1 << 23}, 0xf0009800},
	{inst.Inst{Form: inst.BWide, Imm: 3 << 22}, 0xf0009000},
	{inst.Inst{Form: inst.BWide, Imm: -1 << 22}, 0xf400b800},
	{inst.Inst{Form: inst.BWide, Imm: -1 << 23}, 0xf400b000},
	{inst.Inst{Form: inst.BWide, Imm: -3 << 22}, 0xf4009800},
	// Rd with bit 3 of the shape High, and without.
	{inst.Inst{Form: inst.MovHigh, Rd: 8}, 0x4680},
	{inst.Inst{Form: inst.MovHigh, Rd: 14, Rm: 14}, 0x46f6},
	{inst.Inst{Form: inst.MovHigh, Rd: 7, Rm: 8}, 0x4647},
	{inst.Inst{Form: inst.AddHigh}, 0x4400},
	{inst.Inst{Form: inst.CmpHigh, Rd: 8, Rm: 7}, 0x45b8},
	{inst.Inst{Form: inst.CmpHigh, Rd: 7, Rm: 8}, 0x4547},
	// Regs with bit 14 or 15 alone, and without.
	{inst.Inst{Form: inst.Push, Regs: 1 << 14}, 0xb500},
	{inst.Inst{Form: inst.Push, Regs: 1}, 0xb401},
	{inst.Inst{Form: inst.Push, Regs: 0x40ff}, 0xb5ff},
	{inst.Inst{Form: inst.Pop, Regs: 1 << 15}, 0xbd00},
	{inst.Inst{Form: inst.Pop, Regs: 0x80}, 0xbc80},
	{inst.Inst{Form: inst.Pop, Regs: 0x80ff}, 0xbdff},
	// Rm stands twice.
	{inst.Inst{Form: inst.Clz, Rd: 1, Rm: 2}, 0xfab2f182},
	{inst.Inst{Form: inst.Clz, Rd: 14, Rm: 14}, 0xfabefe8e},
	{inst.Inst{Form: inst.Clz}, 0xfab0f080},
	// Numbers that lie in pieces.
	{inst.Inst{Form: inst.Movw, Rd: 14, Imm: 0x8000}, 0xf2480e00},
	{inst.Inst{Form: inst.Movw, Imm: 0x0800}, 0xf6400000},
	{inst.Inst{Form: inst.Movt, Rd: 2, Imm: 0x1734}, 0xf2c17234},
	{inst.Inst{Form: inst.MovImm, Rd: 1, Imm: 0x101}, 0xf04f1101},
	{inst.Inst{Form: inst.MvnImm, Rd: 12, Imm: 4095, Set: 1}, 0xf47f7cff},
	{inst.Inst{Form: inst.TeqImm, Rn: 14, Imm: 0x400}, 0xf09e4f00},
	{inst.Inst{Form: inst.Umlal, Rd: 1, Ra: 4, Rn: 2, Rm: 3}, 0xfbe21403},
	{inst.Inst{Form: inst.AddSp, Rd: 7, Imm: 1020}, 0xafff},
	{inst.Inst{Form: inst.IncSp, Imm: 508}, 0xb07f},
	{inst.Inst{Form: inst.StrOff, Rd: 1, Rn: 2, Imm: 124}, 0x67d1},
}

// P4.1, P4.2: the edges that the chapter names.
func TestEdges(t *testing.T) {
	for _, x := range edges {
		written(t, x.i, x.word)
	}
}

// P4.2: narrow words that no right instruction has.
func TestUndefinedNarrow(t *testing.T) {
	for _, word := range []uint32{
		0x4500, 0x4511, 0x453f, // both low
		0x4487, 0x4478, 0x4587, 0x46f8, 0x4687, // register 15
		0x4778, 0x4701, 0x4704, 0x4780, 0x47f0, // Bx: register 15, bits that no field has
		0xb400, 0xbc00, // no register
		0xbf01, 0xbf10, 0xbfff,
		0xde00, 0xdeff, 0xdf00, 0xdfff, // Cond 14, 15
		0x5200, 0x5600, 0x5a00, 0x5e00, 0x7000, 0x7fff, 0x8000, 0x8fff, 0xa000, 0xa7ff,
		0xb100, 0xb200, 0xb3ff, 0xb600, 0xb7ff, 0xb800, 0xba00, 0xbbff, 0xc000, 0xcfff,
		0xe800, 0xea4f, 0xf000, 0xf800, 0xffff, // halves that begin wide ones
	} {
		undefined(t, word, false)
	}
}

// P4.2: wide words that no right instruction has.
func TestUndefinedWide(t *testing.T) {
	for _, word := range []uint32{
		0, 0x18d1, 0x18d10000, 0x18d118d1, 0xe7ffffff, 0xe8000000, 0xffffffff, 0x80000000,
		0xea4f0032, 0xea4f0132, 0xeb020133, 0xebb10f32, // ROR by nought
		0xeb028103, 0xeb0d0103, 0xeb0f0103, 0xeb020d03, 0xeb020f03, 0xeb02010d, 0xeb02010f, // bit 15, registers 13 and 15
		0xf04f1000, 0xf04f2000, 0xf04f3000, 0xf0001000, 0xf1b43f00, // numbers that have no word
		0xf04f0d01, 0xf04f0f01, 0xf00d0001, 0xf0000f01,
		0xf2120001, 0xf2b20001, 0xf20d0001, 0xf2400d00, 0xf2400f00, 0xf2500000,
		0xf8df1000, 0xf8d1d000, 0xf8d1f000, // ldr.w: register 15 as base, 13 and 15
		0xf8421043, 0xf8421083, 0xf8421103, 0xf84f1003, 0xf842100d, 0xf842d003,
		0xfa01f012, 0xfa01e002, 0xfa01fd02, 0xfa0df102, 0xfa81f102,
		0xfb12f103, 0xfb02d103, 0xfb024123, 0xfb02f113, 0xfbb2f1e3, 0xfbb2e1f3,
		0xfba21103, 0xfbe2ee03, 0xfbb24103, 0xfba21d03, // umull, umlal into one register
		0xfab2f183, 0xfab3f182, 0xfabdf18d, 0xfabff18f, 0xfab2fd82, 0xfab2f192, // clz of two registers
		0xf3808000, 0xf3c08000, 0xf7bfaffe, // Cond 14, 15
		0xf000c000, 0xf000d000, 0xf000f800, 0xf000e000, // bit 14
	} {
		undefined(t, word, true)
	}
}

// P4.2: words of the other size.
func TestOtherSize(t *testing.T) {
	for _, x := range edges {
		undefined(t, x.word, !x.i.Form.Wide())
		if !x.i.Form.Wide() {
			undefined(t, x.word<<16, true)
			undefined(t, x.word|1<<16, false)
			undefined(t, x.word|1<<31, false)
		}
	}
}

// P4.2: places from the first to the last, and beyond; enough bytes, and too few.
func TestAt(t *testing.T) {
	add := inst.Inst{Form: inst.AddReg, Rd: 1, Rn: 2, Rm: 3}
	jump := inst.Inst{Form: inst.BWide}
	none := inst.Inst{}
	both := []byte{0xd1, 0x18, 0x00, 0xf0, 0x00, 0xb8, 0xd1, 0x18}
	for _, x := range []struct {
		b    []byte
		at   int
		want inst.Inst
		e    api.Errno
	}{
		{both, 0, add, api.OK}, {both, 2, jump, api.OK}, {both, 6, add, api.OK},
		{both, 7, none, api.ErrShort}, {both, 8, none, api.ErrShort}, {both, 9, none, api.ErrRange}, {both, -1, none, api.ErrRange},
		{both, 1, inst.Inst{Form: inst.LslImm, Rm: 3}, api.OK}, {both, 4, none, api.ErrUndefined},
		{both, math.MaxInt, none, api.ErrRange}, {both, math.MinInt, none, api.ErrRange}, {both, 1 << 32, none, api.ErrRange},
		{both[:2], 0, add, api.OK}, {both[:1], 0, none, api.ErrShort}, {both[:1], 1, none, api.ErrShort}, {both[:1], 2, none, api.ErrRange},
		{nil, 0, none, api.ErrShort}, {nil, 1, none, api.ErrRange}, {nil, -1, none, api.ErrRange}, {[]byte{}, 0, none, api.ErrShort},
		{both[2:6], 0, jump, api.OK}, {both[2:5], 0, none, api.ErrShort}, {both[2:4], 0, none, api.ErrShort}, {both[2:3], 0, none, api.ErrShort},
		{both[:6], 2, jump, api.OK}, {both[:5], 2, none, api.ErrShort}, {both[:4], 2, none, api.ErrShort}, {both[:3], 2, none, api.ErrShort}, {both[:2], 2, none, api.ErrShort},
		{[]byte{0x00, 0xe8}, 0, none, api.ErrShort}, {[]byte{0x00, 0xe8, 0x00}, 0, none, api.ErrShort}, {[]byte{0x00, 0xe8, 0x00, 0x00}, 0, none, api.ErrUndefined},
		{[]byte{0xff, 0xe7}, 0, inst.Inst{Form: inst.B, Imm: -2}, api.OK}, {[]byte{0x00, 0xde}, 0, none, api.ErrUndefined}, {[]byte{0x00, 0xde, 0xd1, 0x18}, 0, none, api.ErrUndefined},
		{[]byte{0xff, 0xff}, 0, none, api.ErrShort}, {[]byte{0xff, 0xff, 0xff, 0xff}, 0, none, api.ErrUndefined}, {[]byte{0xff}, 0, none, api.ErrShort},
	} {
		kept := bytes.Clone(both)
		if i, e := code.At(x.b, x.at); i != x.want || e != x.e {
			t.Errorf("At(%x, %d): %+v, %d, not %+v, %d", x.b, x.at, i, e, x.want, x.e)
		}
		if !bytes.Equal(both, kept) {
			t.Fatalf("%x, not %x any more", both, kept)
		}
	}
}
