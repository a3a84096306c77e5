package core_test

import (
	"fmt"
	"math/bits"
	"strings"
	"testing"

	"remontoire/core"
	"remontoire/inst"
)

// anyRight is a right instruction of a form, with fields as the dice fall.
func anyRight(d *dice, f inst.Form) inst.Inst {
	for {
		low, wide := func() int { return d.below(8) }, func() int { return [...]int{0, 1, 2, 3, 4, 5, 6, 7, 8, 9, 10, 11, 12, 14}[d.below(14)] }
		i := inst.Inst{Form: f}
		switch f.Shape() {
		case inst.ShShift:
			i.Rd, i.Rm, i.Imm = low(), low(), d.below(33)
		case inst.ShThree:
			i.Rd, i.Rn, i.Rm = low(), low(), low()
		case inst.ShTiny:
			i.Rd, i.Rn, i.Imm = low(), low(), d.below(8)
		case inst.ShByte:
			i.Rd, i.Imm = low(), d.below(256)
		case inst.ShTwo:
			i.Rd, i.Rm = low(), low()
		case inst.ShHigh:
			i.Rd, i.Rm = d.below(15), d.below(15)
		case inst.ShLit:
			i.Rd, i.Imm = low(), 4*d.below(256)
		case inst.ShInc:
			i.Imm = 4 * d.below(128)
		case inst.ShMovw:
			i.Rd, i.Imm = wide(), d.below(1<<16)
		case inst.ShImm:
			i.Rd, i.Rn, i.Imm, i.Set = wide(), wide(), d.below(4096), d.below(2)
		case inst.ShImmTo:
			i.Rd, i.Imm, i.Set = wide(), d.below(4096), d.below(2)
		case inst.ShImmOf:
			i.Rn, i.Imm = wide(), d.below(4096)
		case inst.ShBarrel:
			i.Rd, i.Rn, i.Rm, i.Kind, i.By, i.Set = wide(), wide(), wide(), d.below(4), d.below(33), d.below(2)
		case inst.ShBarrelTo:
			i.Rd, i.Rm, i.Kind, i.By, i.Set = wide(), wide(), d.below(4), d.below(33), d.below(2)
		case inst.ShBarrelOf:
			i.Rn, i.Rm, i.Kind, i.By = wide(), wide(), d.below(4), d.below(33)
		case inst.ShPlain:
			i.Rd, i.Rn, i.Imm = wide(), wide(), d.below(4096)
		case inst.ShTurn:
			i.Rd, i.Rn, i.Rm, i.Set = wide(), wide(), wide(), d.below(2)
		case inst.ShMul:
			i.Rd, i.Rn, i.Rm = wide(), wide(), wide()
		case inst.ShMla, inst.ShMls, inst.ShLong:
			i.Rd, i.Rn, i.Rm, i.Ra = wide(), wide(), wide(), wide()
		case inst.ShClz:
			i.Rd, i.Rm = wide(), wide()
		}
		if i.Right() {
			return i
		}
	}
}

func bit(b bool) uint32 {
	if b {
		return 1
	}
	return 0
}

// shifted is a word that is shifted, and its carry, by numbers of 64 bits.
func shifted(kind int, x uint32, n int, c uint32) (uint32, uint32) {
	if n == 0 {
		return x, c
	}
	switch kind {
	case 0:
		long := uint64(x) << n
		return uint32(long), uint32(long >> 32 & 1)
	case 1:
		long := uint64(x) << 32 >> n
		return uint32(long >> 32), uint32(long >> 31 & 1)
	case 2:
		long := uint64(int64(uint64(x)<<32) >> n)
		return uint32(long >> 32), uint32(long >> 31 & 1)
	}
	y := bits.RotateLeft32(x, -n)
	return y, y >> 31
}

// immediate is a number's word, and its carry.
func immediate(n int, c uint32) (uint32, uint32) {
	b := uint32(n & 255)
	switch n >> 8 {
	case 0:
		return b, c
	case 1:
		return b<<16 | b, c
	case 2:
		return b<<24 | b<<8, c
	case 3:
		return b<<24 | b<<16 | b<<8 | b, c
	}
	x := bits.RotateLeft32(128|b&127, -(n >> 7))
	return x, x >> 31
}

// operation is what a form does, by its word: without what says that it is wide, or that it sets flags.
func operation(f inst.Form) string {
	if f.Wide() {
		return strings.TrimSuffix(f.Name(), ".w")
	}
	if name := f.Name(); len(name) == 4 {
		return strings.TrimSuffix(name, "s")
	}
	return f.Name()
}

// operands are the two operands, and the second one's carry.
func operands(i inst.Inst, s core.State) (x, y, c uint32) {
	x, y, c = s.R[i.Rn], s.R[i.Rm], s.C
	switch i.Form.Shape() {
	case inst.ShTwo, inst.ShHigh:
		x = s.R[i.Rd]
	case inst.ShByte:
		x, y = s.R[i.Rd], uint32(i.Imm)
	case inst.ShTiny, inst.ShPlain, inst.ShMovw:
		y = uint32(i.Imm)
	case inst.ShLit, inst.ShInc:
		x, y = s.R[13], uint32(i.Imm)
	case inst.ShShift:
		x, y = s.R[i.Rm], uint32(i.Imm)
	case inst.ShImm, inst.ShImmTo, inst.ShImmOf:
		y, c = immediate(i.Imm, s.C)
	case inst.ShBarrel, inst.ShBarrelTo, inst.ShBarrelOf:
		y, c = shifted(i.Kind, y, i.By, s.C)
	}
	return x, y, c
}

// difference is x less y and less what is borrowed, with its flags: no borrow is a carry.
func difference(x, y, borrowed uint32) (z, carry, over uint32) {
	z = x - y - borrowed
	signed := int64(int32(x)) - int64(int32(y)) - int64(borrowed)
	return z, bit(uint64(x) >= uint64(y)+uint64(borrowed)), bit(signed != int64(int32(z)))
}

// total is x and y and a carry, with its flags.
func total(x, y, c uint32) (z, carry, over uint32) {
	long := uint64(x) + uint64(y) + uint64(c)
	signed := int64(int32(x)) + int64(int32(y)) + int64(c)
	return uint32(long), uint32(long >> 32), bit(signed != int64(int32(long)))
}

// outcome is what comes of an operation, and the flags that it would set.
func outcome(i inst.Inst, s core.State) (z, c, v uint32) {
	x, y, carry := operands(i, s)
	c, v = carry, s.V
	switch operation(i.Form) {
	case "lsl", "lsr", "asr", "ror":
		kind := strings.Index("lsl lsr asr ror", operation(i.Form)) / 4
		z, c = shifted(kind, x, int(y&255), s.C)
	case "add", "addw", "cmn":
		z, c, v = total(x, y, 0)
	case "adc":
		z, c, v = total(x, y, s.C)
	case "sub", "subw", "cmp":
		z, c, v = difference(x, y, 0)
	case "sbc":
		z, c, v = difference(x, y, 1-s.C)
	case "rsb":
		if i.Form == inst.Rsb {
			x = 0
			z, c, v = difference(x, y, 0)
		} else {
			z, c, v = difference(y, x, 0)
		}
	case "mov", "movw":
		z = y
	case "movt":
		z = y*65536 + s.R[i.Rd]%65536
	case "mvn":
		z = -y - 1
	case "and", "tst":
		z = x & y
	case "orr":
		z = x | y
	case "eor", "teq":
		z = x ^ y
	case "bic":
		z = x - x&y
	case "orn":
		z = x | (0xFFFFFFFF - y)
	case "mul":
		z = x * y
	case "mla":
		z = x*y + s.R[i.Ra]
	case "mls":
		z = s.R[i.Ra] - x*y
	case "udiv":
		if y != 0 {
			z = x / y
		}
	case "clz":
		z = uint32(bits.LeadingZeros32(y))
	default:
		panic(operation(i.Form))
	}
	return z, c, v
}

// modelled is the state behind an instruction without memory or branches.
func modelled(i inst.Inst, s core.State) core.State {
	next := s
	next.R[15] += uint32(i.Bytes())
	op := operation(i.Form)
	if op == "umull" || op == "umlal" {
		hi, lo := bits.Mul32(s.R[i.Rn], s.R[i.Rm])
		if op == "umlal" {
			var carry uint32
			lo, carry = bits.Add32(lo, s.R[i.Rd], 0)
			hi, _ = bits.Add32(hi, s.R[i.Ra], carry)
		}
		next.R[i.Rd], next.R[i.Ra] = lo, hi
		return next
	}
	z, c, v := outcome(i, s)
	if !strings.Contains("cmp cmn tst teq", op) {
		rd := i.Rd
		if i.Form.Shape() == inst.ShInc {
			rd = 13
		}
		next.R[rd] = z
		if i.Form.Shape() == inst.ShHigh && rd == 13 {
			next.R[rd] = z / 4 * 4
		}
	}
	narrow := !i.Form.Wide() && strings.HasSuffix(i.Form.Name(), "s") && len(i.Form.Name()) == 4
	if i.Set == 1 || narrow || strings.Contains("cmp cmn tst teq", op) {
		next.N, next.Z = z>>31, bit(z == 0)
		if op != "mul" {
			next.C, next.V = c, v
		}
	}
	return next
}

// computes tells whether a form has no part in memory, and goes on behind itself.
func computes(f inst.Form) bool {
	name := f.Name()
	return f.Shape() != inst.ShNone && !strings.HasPrefix(name, "ldr") && !strings.HasPrefix(name, "str") &&
		!strings.Contains("push pop bkpt bx b b.w", name)
}

// P7.2: each form that reckons with words, at instructions, words and flags of all kinds, against what numbers of 64 bits tell.
func TestModel(t *testing.T) {
	forms := 0
	for f := inst.LslImm; f <= inst.BWide; f++ {
		if !computes(f) {
			continue
		}
		forms++
		d := dice(f)
		for range 1500 {
			i := anyRight(&d, f)
			s := allFlags(core.State{}, uint32(d.below(16)))
			for r := range s.R {
				s.R[r] = d.word()
			}
			s.R[15] = flash
			c := machine(t, memory(t, bytesOf(t, i), nil), 0, s)
			v, e := c.Step()
			if want := modelled(i, s); e != 0 || c.State() != want || c.Halt() != (core.Halt{}) {
				t.Fatalf("%+v in\n%#x: %d\n%#x, not\n%#x", i, s, e, c.State(), want)
			}
			if v.At != flash || v.Data != 0 || v.Words != 0 || v.Misses != 1 || c.Cycles() != v.Cycles {
				t.Fatalf("%+v: %+v, %d cycles", i, v, c.Cycles())
			}
		}
	}
	// The hundred but five loads and a literal, five stores, two for the stack, Nop, Bkpt and five branches.
	if forms != 100-6-5-2-1-1-5 {
		t.Errorf("%d forms", forms)
	}
}

// P7.2: Push and Pop of all lists that there are, one behind the other, leave all as it was but what lies below the stack.
func TestAllLists(t *testing.T) {
	for low := range 256 {
		for _, high := range []int{0, 1} {
			push, pop := inst.Inst{Form: inst.Push, Regs: low | high<<14}, inst.Inst{Form: inst.Pop, Regs: low | high<<15}
			if push.Regs == 0 {
				continue
			}
			many := bits.OnesCount(uint(push.Regs))
			m := memory(t, bytesOf(t, push, pop), nil)
			s := with(filled(), regs{14: flash + 0x201})
			c := machine(t, m, 0, s)
			what := fmt.Sprintf("the list %#x", push.Regs)
			data := uint32(ram + 256 - 4*many)
			steps(t, what, c, core.Event{At: flash, Data: data, Words: many, Cycles: 1 + many, Misses: 1})
			stands(t, what, c, with(s, regs{13: data, 15: flash + 2}), 1+many, core.Halt{})
			place := data
			for r := range 15 {
				if push.Regs>>r&1 == 1 {
					if x, _ := m.Load(place); x != s.R[r] {
						t.Errorf("%s: %#x at %#x, not R[%d]", what, x, place, r)
					}
					place += 4
				}
			}
			// Other registers, so that what is loaded shows.
			other := c.State()
			for r := range 8 {
				other.R[r] = ^other.R[r]
			}
			c.Set(other)
			want := with(other, regs{13: ram + 256, 15: uint32(flash + 4)})
			for r := range 8 {
				if low>>r&1 == 1 {
					want.R[r] = s.R[r]
				}
			}
			if high == 1 {
				want.R[15] = flash + 0x200
			}
			steps(t, what, c, core.Event{At: flash + 2, Data: data, Words: many, Cycles: 1 + many + 2*high})
			stands(t, what, c, want, 2+2*many+2*high, core.Halt{})
		}
	}
}
