package clock_test

import (
	"math"
	"testing"

	"remontoire/api"
	"remontoire/clock"
	"remontoire/inst"
)

// bases are a right instruction of each form, with its base where it isn't taken, and where it is (of Udiv of 100 by 7).
var bases = []struct {
	i         inst.Inst
	not, then int
}{
	{inst.Inst{Form: inst.LslImm, Rd: 1, Rm: 2, Imm: 31}, 1, 1},
	{inst.Inst{Form: inst.LsrImm, Rd: 1, Rm: 2, Imm: 32}, 1, 1},
	{inst.Inst{Form: inst.AsrImm, Rd: 1, Rm: 2, Imm: 1}, 1, 1},
	{inst.Inst{Form: inst.AddReg, Rd: 1, Rn: 2, Rm: 3}, 1, 1},
	{inst.Inst{Form: inst.SubReg, Rd: 1, Rn: 2, Rm: 3}, 1, 1},
	{inst.Inst{Form: inst.AddTiny, Rd: 1, Rn: 2, Imm: 7}, 1, 1},
	{inst.Inst{Form: inst.SubTiny, Rd: 1, Rn: 2, Imm: 7}, 1, 1},
	{inst.Inst{Form: inst.MovByte, Rd: 1, Imm: 255}, 1, 1},
	{inst.Inst{Form: inst.CmpByte, Rd: 1, Imm: 255}, 1, 1},
	{inst.Inst{Form: inst.AddByte, Rd: 1, Imm: 255}, 1, 1},
	{inst.Inst{Form: inst.SubByte, Rd: 1, Imm: 255}, 1, 1},
	{inst.Inst{Form: inst.And, Rd: 1, Rm: 2}, 1, 1},
	{inst.Inst{Form: inst.Eor, Rd: 1, Rm: 2}, 1, 1},
	{inst.Inst{Form: inst.Lsl, Rd: 1, Rm: 2}, 1, 1},
	{inst.Inst{Form: inst.Lsr, Rd: 1, Rm: 2}, 1, 1},
	{inst.Inst{Form: inst.Asr, Rd: 1, Rm: 2}, 1, 1},
	{inst.Inst{Form: inst.Adc, Rd: 1, Rm: 2}, 1, 1},
	{inst.Inst{Form: inst.Sbc, Rd: 1, Rm: 2}, 1, 1},
	{inst.Inst{Form: inst.Ror, Rd: 1, Rm: 2}, 1, 1},
	{inst.Inst{Form: inst.Tst, Rd: 1, Rm: 2}, 1, 1},
	{inst.Inst{Form: inst.Rsb, Rd: 1, Rm: 2}, 1, 1},
	{inst.Inst{Form: inst.Cmp, Rd: 1, Rm: 2}, 1, 1},
	{inst.Inst{Form: inst.Cmn, Rd: 1, Rm: 2}, 1, 1},
	{inst.Inst{Form: inst.Orr, Rd: 1, Rm: 2}, 1, 1},
	{inst.Inst{Form: inst.Muls, Rd: 1, Rm: 2}, 1, 1},
	{inst.Inst{Form: inst.Bic, Rd: 1, Rm: 2}, 1, 1},
	{inst.Inst{Form: inst.Mvn, Rd: 1, Rm: 2}, 1, 1},
	{inst.Inst{Form: inst.AddHigh, Rd: 13, Rm: 8}, 1, 1},
	{inst.Inst{Form: inst.CmpHigh, Rd: 8, Rm: 7}, 1, 1},
	{inst.Inst{Form: inst.MovHigh, Rd: 14, Rm: 8}, 1, 1},
	{inst.Inst{Form: inst.Bx, Rm: 14}, 3, 3},
	{inst.Inst{Form: inst.LdrLit, Rd: 1, Imm: 1020}, 2, 2},
	{inst.Inst{Form: inst.StrReg, Rd: 1, Rn: 2, Rm: 3}, 2, 2},
	{inst.Inst{Form: inst.LdrReg, Rd: 1, Rn: 2, Rm: 3}, 2, 2},
	{inst.Inst{Form: inst.StrOff, Rd: 1, Rn: 2, Imm: 124}, 2, 2},
	{inst.Inst{Form: inst.LdrOff, Rd: 1, Rn: 2, Imm: 124}, 2, 2},
	{inst.Inst{Form: inst.StrSp, Rd: 1, Imm: 1020}, 2, 2},
	{inst.Inst{Form: inst.LdrSp, Rd: 1, Imm: 1020}, 2, 2},
	{inst.Inst{Form: inst.AddSp, Rd: 1, Imm: 1020}, 1, 1},
	{inst.Inst{Form: inst.IncSp, Imm: 508}, 1, 1},
	{inst.Inst{Form: inst.DecSp, Imm: 508}, 1, 1},
	{inst.Inst{Form: inst.Push, Regs: 0x40f0}, 6, 6},
	{inst.Inst{Form: inst.Pop, Regs: 0x80f0}, 8, 8},
	{inst.Inst{Form: inst.Nop}, 1, 1},
	{inst.Inst{Form: inst.Bkpt, Imm: 255}, 1, 1},
	{inst.Inst{Form: inst.Bcond, Cond: 13, Imm: 254}, 1, 3},
	{inst.Inst{Form: inst.B, Imm: -2048}, 3, 3},
	{inst.Inst{Form: inst.Movw, Rd: 14, Imm: 65535}, 1, 1},
	{inst.Inst{Form: inst.Movt, Rd: 14, Imm: 65535}, 1, 1},
	{inst.Inst{Form: inst.AndImm, Rd: 1, Rn: 2, Imm: 255, Set: 1}, 1, 1},
	{inst.Inst{Form: inst.BicImm, Rd: 1, Rn: 2, Imm: 255}, 1, 1},
	{inst.Inst{Form: inst.OrrImm, Rd: 1, Rn: 2, Imm: 255}, 1, 1},
	{inst.Inst{Form: inst.OrnImm, Rd: 1, Rn: 2, Imm: 255}, 1, 1},
	{inst.Inst{Form: inst.EorImm, Rd: 1, Rn: 2, Imm: 255}, 1, 1},
	{inst.Inst{Form: inst.AddImm, Rd: 1, Rn: 2, Imm: 255}, 1, 1},
	{inst.Inst{Form: inst.AdcImm, Rd: 1, Rn: 2, Imm: 255}, 1, 1},
	{inst.Inst{Form: inst.SbcImm, Rd: 1, Rn: 2, Imm: 255}, 1, 1},
	{inst.Inst{Form: inst.SubImm, Rd: 1, Rn: 2, Imm: 255}, 1, 1},
	{inst.Inst{Form: inst.RsbImm, Rd: 1, Rn: 2, Imm: 255}, 1, 1},
	{inst.Inst{Form: inst.MovImm, Rd: 1, Imm: 4095, Set: 1}, 1, 1},
	{inst.Inst{Form: inst.MvnImm, Rd: 1, Imm: 4095}, 1, 1},
	{inst.Inst{Form: inst.TstImm, Rn: 1, Imm: 4095}, 1, 1},
	{inst.Inst{Form: inst.TeqImm, Rn: 1, Imm: 4095}, 1, 1},
	{inst.Inst{Form: inst.CmnImm, Rn: 1, Imm: 4095}, 1, 1},
	{inst.Inst{Form: inst.CmpImm, Rn: 1, Imm: 4095}, 1, 1},
	{inst.Inst{Form: inst.AndShift, Rd: 1, Rn: 2, Rm: 3, By: 31}, 1, 1},
	{inst.Inst{Form: inst.BicShift, Rd: 1, Rn: 2, Rm: 3, By: 31}, 1, 1},
	{inst.Inst{Form: inst.OrrShift, Rd: 1, Rn: 2, Rm: 3, Kind: 1, By: 32}, 1, 1},
	{inst.Inst{Form: inst.OrnShift, Rd: 1, Rn: 2, Rm: 3, Kind: 1, By: 32}, 1, 1},
	{inst.Inst{Form: inst.EorShift, Rd: 1, Rn: 2, Rm: 3, Kind: 3, By: 7}, 1, 1},
	{inst.Inst{Form: inst.AddShift, Rd: 1, Rn: 2, Rm: 3, Kind: 2, By: 32}, 1, 1},
	{inst.Inst{Form: inst.AdcShift, Rd: 1, Rn: 2, Rm: 3, Set: 1}, 1, 1},
	{inst.Inst{Form: inst.SbcShift, Rd: 1, Rn: 2, Rm: 3, Set: 1}, 1, 1},
	{inst.Inst{Form: inst.SubShift, Rd: 1, Rn: 2, Rm: 3, By: 1}, 1, 1},
	{inst.Inst{Form: inst.RsbShift, Rd: 1, Rn: 2, Rm: 3, By: 1}, 1, 1},
	{inst.Inst{Form: inst.MovShift, Rd: 1, Rm: 2, Kind: 3, By: 31}, 1, 1},
	{inst.Inst{Form: inst.MvnShift, Rd: 1, Rm: 2, Kind: 3, By: 31}, 1, 1},
	{inst.Inst{Form: inst.TstShift, Rn: 1, Rm: 2}, 1, 1},
	{inst.Inst{Form: inst.TeqShift, Rn: 1, Rm: 2}, 1, 1},
	{inst.Inst{Form: inst.CmnShift, Rn: 1, Rm: 2}, 1, 1},
	{inst.Inst{Form: inst.CmpShift, Rn: 1, Rm: 2}, 1, 1},
	{inst.Inst{Form: inst.AddWide, Rd: 1, Rn: 2, Imm: 4095}, 1, 1},
	{inst.Inst{Form: inst.SubWide, Rd: 1, Rn: 2, Imm: 4095}, 1, 1},
	{inst.Inst{Form: inst.StrWide, Rd: 1, Rn: 13, Imm: 4095}, 2, 2},
	{inst.Inst{Form: inst.LdrWide, Rd: 1, Rn: 13, Imm: 4095}, 2, 2},
	{inst.Inst{Form: inst.StrIndex, Rd: 1, Rn: 13, Rm: 2, By: 3}, 2, 2},
	{inst.Inst{Form: inst.LdrIndex, Rd: 1, Rn: 13, Rm: 2, By: 3}, 2, 2},
	{inst.Inst{Form: inst.LslWide, Rd: 1, Rn: 2, Rm: 3, Set: 1}, 1, 1},
	{inst.Inst{Form: inst.LsrWide, Rd: 1, Rn: 2, Rm: 3}, 1, 1},
	{inst.Inst{Form: inst.AsrWide, Rd: 1, Rn: 2, Rm: 3}, 1, 1},
	{inst.Inst{Form: inst.RorWide, Rd: 1, Rn: 2, Rm: 3}, 1, 1},
	{inst.Inst{Form: inst.Mul, Rd: 1, Rn: 2, Rm: 3}, 1, 1},
	{inst.Inst{Form: inst.Mla, Rd: 1, Rn: 2, Rm: 3, Ra: 4}, 2, 2},
	{inst.Inst{Form: inst.Mls, Rd: 1, Rn: 2, Rm: 3, Ra: 4}, 2, 2},
	{inst.Inst{Form: inst.Umull, Rd: 1, Rn: 2, Rm: 3, Ra: 4}, 1, 1},
	{inst.Inst{Form: inst.Umlal, Rd: 1, Rn: 2, Rm: 3, Ra: 4}, 1, 1},
	{inst.Inst{Form: inst.Udiv, Rd: 1, Rn: 2, Rm: 3}, 4, 4},
	{inst.Inst{Form: inst.Clz, Rd: 1, Rm: 2}, 1, 1},
	{inst.Inst{Form: inst.BcondWide, Cond: 13, Imm: -1 << 20}, 1, 3},
	{inst.Inst{Form: inst.BWide, Imm: 1<<24 - 2}, 3, 3},
}

// pairs are two words each, for what divides and for what must not care.
var pairs = [][2]uint32{{0, 0}, {0, 1}, {1, 0}, {7, 100}, {100, 7}, {math.MaxUint32, 1}, {1, math.MaxUint32}, {math.MaxUint32, math.MaxUint32}, {1 << 31, 16}}

// base is Base, where it must answer OK.
func base(t *testing.T, i inst.Inst, taken bool, a, b uint32) int {
	t.Helper()
	n, e := clock.Base(i, taken, a, b)
	if e != api.OK {
		t.Errorf("Base(%+v, %t, %d, %d): %d", i, taken, a, b, e)
	}
	return n
}

// P5.1: the base of each of the hundred forms, taken and not.
func TestBases(t *testing.T) {
	if len(bases) != 100 {
		t.Fatal(len(bases))
	}
	for n, x := range bases {
		if int(x.i.Form) != n+1 || !x.i.Right() {
			t.Errorf("row %d: %+v", n+1, x.i)
		}
		if got := base(t, x.i, false, 100, 7); got != x.not {
			t.Errorf("%+v, not taken: %d, not %d", x.i, got, x.not)
		}
		if got := base(t, x.i, true, 100, 7); got != x.then {
			t.Errorf("%+v, taken: %d, not %d", x.i, got, x.then)
		}
	}
}

// P5.1: of all forms but Udiv, the words make no difference.
func TestBaseWithoutWords(t *testing.T) {
	for _, x := range bases {
		if x.i.Form == inst.Udiv {
			continue
		}
		for _, p := range pairs {
			if n := base(t, x.i, false, p[0], p[1]); n != x.not {
				t.Errorf("%+v, %v: %d, not %d", x.i, p, n, x.not)
			}
			if n := base(t, x.i, true, p[0], p[1]); n != x.then {
				t.Errorf("%+v, %v, taken: %d, not %d", x.i, p, n, x.then)
			}
		}
	}
}

// P5.1: branches with any condition, narrow and wide.
func TestBaseOfConditions(t *testing.T) {
	for _, f := range []inst.Form{inst.Bcond, inst.BcondWide} {
		for cond := range 14 {
			for _, to := range []int{-256, -2, 0, 254} {
				i := inst.Inst{Form: f, Cond: cond, Imm: to}
				if n := base(t, i, false, 0, 0); n != 1 {
					t.Errorf("%+v, not taken: %d", i, n)
				}
				if n := base(t, i, true, 0, 0); n != 3 {
					t.Errorf("%+v, taken: %d", i, n)
				}
			}
		}
	}
}

// P5.1: Push and Pop of one register, of all that they may have, and with the bit 14 or 15 and without.
func TestBaseOfLists(t *testing.T) {
	for _, x := range []struct {
		form       inst.Form
		regs, want int
	}{
		{inst.Push, 0x01, 2}, {inst.Push, 0x80, 2}, {inst.Push, 0x4000, 2}, {inst.Push, 0xff, 9}, {inst.Push, 0x40ff, 10}, {inst.Push, 0x4001, 3},
		{inst.Pop, 0x01, 2}, {inst.Pop, 0x80, 2}, {inst.Pop, 0x8000, 4}, {inst.Pop, 0xff, 9}, {inst.Pop, 0x80ff, 12}, {inst.Pop, 0x8001, 5},
	} {
		if n := base(t, inst.Inst{Form: x.form, Regs: x.regs}, false, 0, 0); n != x.want {
			t.Errorf("the form %d of %#x: %d, not %d", x.form, x.regs, n, x.want)
		}
	}
}

// P5.1: every list of registers, counted one by one.
func TestBaseOfAllLists(t *testing.T) {
	for low := range 256 {
		count := 0
		for rest := low; rest > 0; rest /= 2 {
			count += rest % 2
		}
		for _, x := range []struct {
			form       inst.Form
			regs, want int
		}{
			{inst.Push, low, 1 + count}, {inst.Push, low + 1<<14, 2 + count},
			{inst.Pop, low, 1 + count}, {inst.Pop, low + 1<<15, 4 + count},
		} {
			if x.regs == 0 {
				continue
			}
			if n := base(t, inst.Inst{Form: x.form, Regs: x.regs}, true, 0, 0); n != x.want {
				t.Errorf("the form %d of %#x: %d, not %d", x.form, x.regs, n, x.want)
			}
		}
	}
}

// quotients are what is divided, and how long it takes.
var quotients = []struct {
	a, b uint32
	want int
}{
	{100, 7, 4},
	// By 0.
	{0, 0, 2}, {1, 0, 2}, {5, 0, 2}, {1 << 31, 0, 2}, {math.MaxUint32, 0, 2},
	// By a number with more bits.
	{0, 1, 2}, {0, math.MaxUint32, 2}, {1, 2, 2}, {7, 8, 2}, {15, 16, 2}, {1, 1 << 31, 2}, {1<<31 - 1, 1 << 31, 2}, {1, math.MaxUint32, 2},
	// With as many, be it greater or not.
	{1, 1, 3}, {2, 2, 3}, {2, 3, 3}, {3, 2, 3}, {8, 15, 3}, {1 << 31, math.MaxUint32, 3}, {math.MaxUint32, 1 << 31, 3},
	// With one to four fewer, and at the next steps.
	{2, 1, 3}, {4, 1, 3}, {8, 1, 3}, {15, 1, 3}, {16, 1, 4}, {31, 1, 4}, {128, 1, 4}, {255, 1, 4}, {256, 1, 5},
	{16, 8, 3}, {32, 8, 3}, {64, 8, 3}, {127, 15, 3}, {128, 8, 4}, {128, 15, 4},
	{1 << 31, 1 << 30, 3}, {1 << 31, 1 << 28, 3}, {1 << 31, 1 << 27, 4}, {1 << 31, 1<<28 - 1, 4}, {1 << 31, 16, 9},
	// With 28 to 31 fewer.
	{1 << 28, 1, 10}, {1<<28 - 1, 1, 9}, {1 << 31, 1, 10}, {math.MaxUint32, 1, 10}, {math.MaxUint32, 2, 10}, {math.MaxUint32, 8, 10}, {math.MaxUint32, 16, 9},
}

// P5.1: Div, and Base of Udiv likewise, taken or not.
func TestDiv(t *testing.T) {
	for _, x := range quotients {
		if n := clock.Div(x.a, x.b); n != x.want {
			t.Errorf("Div(%d, %d): %d, not %d", x.a, x.b, n, x.want)
		}
		for _, taken := range []bool{false, true} {
			if n := base(t, inst.Inst{Form: inst.Udiv, Rd: 14, Rn: 12}, taken, x.a, x.b); n != x.want {
				t.Errorf("Udiv of %d by %d: %d, not %d", x.a, x.b, n, x.want)
			}
		}
	}
}

// P5.1: Div at every two lengths, at the least and the greatest number of each.
func TestDivByLengths(t *testing.T) {
	for p := range 33 {
		for q := range 33 {
			want := 2
			if q > 0 && p >= q {
				want = 3
				for more := p - q; more >= 4; more -= 4 {
					want++
				}
			}
			for _, a := range ends(p) {
				for _, b := range ends(q) {
					if n := clock.Div(a, b); n != want {
						t.Errorf("Div(%d, %d): %d, not %d", a, b, n, want)
					}
				}
			}
		}
	}
}

// ends are the least and the greatest word of so many bits.
func ends(n int) [2]uint32 {
	if n == 0 {
		return [2]uint32{}
	}
	return [2]uint32{1 << (n - 1), uint32(uint64(1)<<n - 1)}
}

// P5.1: an instruction that isn't right: ErrForm, and 0 beside it.
func TestBaseOfWrong(t *testing.T) {
	wrong := []inst.Inst{
		{}, {Form: -1}, {Form: 101}, {Form: math.MinInt}, {Form: math.MaxInt}, {Form: 1<<32 + 47},
		{Form: inst.AddReg, Rd: 8}, {Form: inst.LsrImm}, {Form: inst.CmpHigh}, {Form: inst.Nop, Imm: 1},
		{Form: inst.Push}, {Form: inst.Push, Regs: 0x8001}, {Form: inst.Push, Regs: 0x100}, {Form: inst.Push, Regs: -1},
		{Form: inst.Pop}, {Form: inst.Pop, Regs: 0x4001}, {Form: inst.Pop, Regs: 1<<32 + 1}, {Form: inst.Pop, Regs: math.MinInt},
		{Form: inst.Bcond, Cond: 14}, {Form: inst.Bcond, Imm: 1}, {Form: inst.BcondWide, Cond: -1}, {Form: inst.BcondWide, Imm: 1 << 20},
		{Form: inst.B, Imm: 2048}, {Form: inst.BWide, Cond: 1}, {Form: inst.Bx, Rm: 15},
		{Form: inst.LdrSp, Imm: 2}, {Form: inst.StrIndex, By: 4}, {Form: inst.LdrWide, Rd: 13},
		{Form: inst.Mla, Ra: 13}, {Form: inst.Mls, Set: 1}, {Form: inst.Umull}, {Form: inst.Udiv, Rd: 13}, {Form: inst.Udiv, Ra: 1},
	}
	for _, x := range bases {
		x.i.Rd = -1
		wrong = append(wrong, x.i)
	}
	for _, i := range wrong {
		for _, p := range pairs {
			for _, taken := range []bool{false, true} {
				if n, e := clock.Base(i, taken, p[0], p[1]); n != 0 || e != api.ErrForm {
					t.Errorf("Base(%+v, %t, %v): %d, %d", i, taken, p, n, e)
				}
			}
		}
	}
}
