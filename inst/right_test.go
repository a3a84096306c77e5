package inst_test

import (
	"math"
	"testing"

	"remontoire/inst"
)

// The fields of an instruction beside its form, by their places in a row.
const (
	rd = iota
	rn
	rm
	ra
	im
	kind
	by
	set
	cond
	regs
	fields
)

var fieldNames = [fields]string{"Rd", "Rn", "Rm", "Ra", "Imm", "Kind", "By", "Set", "Cond", "Regs"}

// row is an instruction's fields, so that a test can change any one of them.
type row [fields]int

func (r row) of(f inst.Form) inst.Inst {
	return inst.Inst{
		Form: f, Rd: r[rd], Rn: r[rn], Rm: r[rm], Ra: r[ra], Imm: r[im],
		Kind: r[kind], By: r[by], Set: r[set], Cond: r[cond], Regs: r[regs],
	}
}

func (r row) with(field, value int) row {
	r[field] = value
	return r
}

// rule is what a field may be.
type rule func(n int) bool

func span(first, last int) rule { return func(n int) bool { return first <= n && n <= last } }

// inSteps is from first to last, in steps from the first one on.
func inSteps(first, last, step int) rule {
	return func(n int) bool { return first <= n && n <= last && (n-first)%step == 0 }
}

func oneOf(list ...int) rule {
	return func(n int) bool {
		for _, x := range list {
			if n == x {
				return true
			}
		}
		return false
	}
}

func butFor(r rule, list ...int) rule { return func(n int) bool { return r(n) && !oneOf(list...)(n) } }

var (
	none    = oneOf(0)
	low     = oneOf(0, 1, 2, 3, 4, 5, 6, 7)
	any14   = oneOf(0, 1, 2, 3, 4, 5, 6, 7, 8, 9, 10, 11, 12, 13, 14)
	wide    = oneOf(0, 1, 2, 3, 4, 5, 6, 7, 8, 9, 10, 11, 12, 14)
	base    = any14
	word    = butFor(span(0, 4095), 0x100, 0x200, 0x300)
	bit     = oneOf(0, 1)
	number  = span(math.MinInt, math.MaxInt)
	anyCond = span(0, 13)
)

// listed is of lists of registers: some of the low ones and one more, at least one of them.
func listed(more int) rule {
	return func(n int) bool {
		return n > 0 && n < 1<<16 && n>>8 == n>>8&(1<<(more-8))
	}
}

// rules are the fields that each shape has; Kind and By of a shift, and what hangs on two fields or on the form, stand in expected.
var rules = map[inst.Shape]map[int]rule{
	inst.ShShift:    {rd: low, rm: low, im: span(0, 32)},
	inst.ShThree:    {rd: low, rn: low, rm: low},
	inst.ShTiny:     {rd: low, rn: low, im: span(0, 7)},
	inst.ShByte:     {rd: low, im: span(0, 255)},
	inst.ShTwo:      {rd: low, rm: low},
	inst.ShHigh:     {rd: any14, rm: any14},
	inst.ShBx:       {rm: any14},
	inst.ShLit:      {rd: low, im: inSteps(0, 1020, 4)},
	inst.ShOff:      {rd: low, rn: low, im: inSteps(0, 124, 4)},
	inst.ShInc:      {im: inSteps(0, 508, 4)},
	inst.ShPush:     {regs: listed(14)},
	inst.ShPop:      {regs: listed(15)},
	inst.ShNone:     {},
	inst.ShBkpt:     {im: span(0, 255)},
	inst.ShCond:     {cond: anyCond, im: inSteps(-256, 254, 2)},
	inst.ShJump:     {im: inSteps(-2048, 2046, 2)},
	inst.ShMovw:     {rd: wide, im: span(0, 65535)},
	inst.ShImm:      {rd: wide, rn: wide, im: word, set: bit},
	inst.ShImmTo:    {rd: wide, im: word, set: bit},
	inst.ShImmOf:    {rn: wide, im: word},
	inst.ShBarrel:   {rd: wide, rn: wide, rm: wide, kind: number, by: number, set: bit},
	inst.ShBarrelTo: {rd: wide, rm: wide, kind: number, by: number, set: bit},
	inst.ShBarrelOf: {rn: wide, rm: wide, kind: number, by: number},
	inst.ShPlain:    {rd: wide, rn: wide, im: span(0, 4095)},
	inst.ShLoad:     {rd: wide, rn: base, im: span(0, 4095)},
	inst.ShIndex:    {rd: wide, rn: base, rm: wide, by: span(0, 3)},
	inst.ShTurn:     {rd: wide, rn: wide, rm: wide, set: bit},
	inst.ShMul:      {rd: wide, rn: wide, rm: wide},
	inst.ShMla:      {rd: wide, rn: wide, rm: wide, ra: wide},
	inst.ShMls:      {rd: wide, rn: wide, rm: wide, ra: wide},
	inst.ShLong:     {rd: wide, rn: wide, rm: wide, ra: wide},
	inst.ShClz:      {rd: wide, rm: wide},
	inst.ShCondWide: {cond: anyCond, im: inSteps(-1048576, 1048574, 2)},
	inst.ShJumpWide: {im: inSteps(-16777216, 16777214, 2)},
}

// shiftBys are, by their kind, how far shifts go.
var shiftBys = []rule{span(0, 31), span(1, 32), span(1, 32), span(1, 31)}

// expected says by the chapter's words whether an instruction of a form is right.
func expected(f inst.Form, s inst.Shape, r row) bool {
	for field := range r {
		may, there := rules[s][field]
		if !there {
			may = none
		}
		if !may(r[field]) {
			return false
		}
	}
	switch s {
	case inst.ShShift:
		return f == inst.LslImm && r[im] < 32 || f != inst.LslImm && r[im] > 0
	case inst.ShHigh:
		return f != inst.CmpHigh || r[rd] > 7 || r[rm] > 7
	case inst.ShLong:
		return r[rd] != r[ra]
	case inst.ShBarrel, inst.ShBarrelTo, inst.ShBarrelOf:
		return r[kind] >= 0 && r[kind] < len(shiftBys) && shiftBys[r[kind]](r[by])
	}
	return true
}

// rights are right instructions of each shape: one with least fields, one with greatest ones, and one between.
var rights = map[inst.Shape][]row{
	inst.ShShift:    {{im: 1}, {rd: 7, rm: 7, im: 31}, {rd: 2, rm: 5, im: 8}},
	inst.ShThree:    {{}, {rd: 7, rn: 7, rm: 7}, {rd: 1, rn: 2, rm: 3}},
	inst.ShTiny:     {{}, {rd: 7, rn: 7, im: 7}, {rd: 3, rn: 4, im: 5}},
	inst.ShByte:     {{}, {rd: 7, im: 255}, {rd: 4, im: 99}},
	inst.ShTwo:      {{}, {rd: 7, rm: 7}, {rd: 6, rm: 1}},
	inst.ShHigh:     {{rm: 8}, {rd: 14, rm: 14}, {rd: 9}},
	inst.ShBx:       {{}, {rm: 14}, {rm: 13}},
	inst.ShLit:      {{}, {rd: 7, im: 1020}, {rd: 1, im: 508}},
	inst.ShOff:      {{}, {rd: 7, rn: 7, im: 124}, {rd: 2, rn: 3, im: 60}},
	inst.ShInc:      {{}, {im: 508}, {im: 16}},
	inst.ShPush:     {{regs: 1}, {regs: 0x40FF}, {regs: 0x4000}},
	inst.ShPop:      {{regs: 1}, {regs: 0x80FF}, {regs: 0x8000}},
	inst.ShNone:     {{}},
	inst.ShBkpt:     {{}, {im: 255}, {im: 1}},
	inst.ShCond:     {{im: -256}, {cond: 13, im: 254}, {cond: 5, im: -2}},
	inst.ShJump:     {{im: -2048}, {im: 2046}, {im: 2}},
	inst.ShMovw:     {{}, {rd: 14, im: 65535}, {rd: 12, im: 4096}},
	inst.ShImm:      {{}, {rd: 14, rn: 14, im: 4095, set: 1}, {rd: 8, rn: 12, im: 0x3FF}},
	inst.ShImmTo:    {{}, {rd: 14, im: 4095, set: 1}, {rd: 12, im: 0x101}},
	inst.ShImmOf:    {{}, {rn: 14, im: 4095}, {rn: 12, im: 0x400}},
	inst.ShBarrel:   {{}, {rd: 14, rn: 14, rm: 14, kind: 3, by: 31, set: 1}, {rd: 12, rn: 8, rm: 1, kind: 1, by: 32}},
	inst.ShBarrelTo: {{}, {rd: 14, rm: 14, kind: 3, by: 31, set: 1}, {rd: 12, rm: 9, kind: 2, by: 32}},
	inst.ShBarrelOf: {{}, {rn: 14, rm: 14, kind: 3, by: 31}, {rn: 12, rm: 7, kind: 1, by: 1}},
	inst.ShPlain:    {{}, {rd: 14, rn: 14, im: 4095}, {rd: 12, rn: 11, im: 0x100}},
	inst.ShLoad:     {{}, {rd: 14, rn: 14, im: 4095}, {rd: 12, rn: 13, im: 0x200}},
	inst.ShIndex:    {{}, {rd: 14, rn: 14, rm: 14, by: 3}, {rd: 12, rn: 13, rm: 11, by: 2}},
	inst.ShTurn:     {{}, {rd: 14, rn: 14, rm: 14, set: 1}, {rd: 12, rn: 11, rm: 10}},
	inst.ShMul:      {{}, {rd: 14, rn: 14, rm: 14}, {rd: 12, rn: 5, rm: 8}},
	inst.ShMla:      {{}, {rd: 14, rn: 14, rm: 14, ra: 14}, {rd: 12, rn: 3, rm: 9, ra: 4}},
	inst.ShMls:      {{}, {rd: 14, rn: 14, rm: 14, ra: 14}, {rd: 12, rn: 3, rm: 9, ra: 4}},
	inst.ShLong:     {{ra: 1}, {rd: 12, rn: 14, rm: 14, ra: 14}, {rd: 14, rn: 2, rm: 2, ra: 12}},
	inst.ShClz:      {{}, {rd: 14, rm: 14}, {rd: 12, rm: 3}},
	inst.ShCondWide: {{im: -1 << 20}, {cond: 13, im: 1<<20 - 2}, {cond: 1, im: 2}},
	inst.ShJumpWide: {{im: -1 << 24}, {im: 1<<24 - 2}, {im: -2}},
}

// P3.2: right instructions of each form; with any field changed that its shape hasn't, they aren't right any more.
func TestRightOfEachForm(t *testing.T) {
	for _, x := range forms {
		for _, r := range rights[x.shape] {
			if !r.of(x.form).Right() {
				t.Errorf("%+v isn't right", r.of(x.form))
			}
			for field := range r {
				if rules[x.shape][field] != nil {
					continue
				}
				for _, n := range []int{1, -1, 2, 8, 1 << 14, 1 << 32, math.MinInt, math.MaxInt} {
					if i := r.with(field, n).of(x.form); i.Right() {
						t.Errorf("%+v is right, with a %s", i, fieldNames[field])
					}
				}
			}
		}
		if len(rights[x.shape]) == 0 {
			t.Errorf("no instruction of the shape %d", x.shape)
		}
	}
}

// probes are numbers about the edges of all that a field may be.
func probes() []int {
	all := []int{math.MinInt, math.MinInt + 1, math.MinInt + 2, math.MaxInt - 1, math.MaxInt, 1<<32 + 1, 1<<32 + 4, -1 << 32, 1<<63 - 1 - 255}
	for n := -520; n <= 4300; n++ {
		all = append(all, n)
	}
	for _, middle := range []int{-2048, 1 << 14, 1<<14 + 255, 1 << 15, 1<<15 + 255, 3 << 14, 3<<14 + 255, 65535, -65536, 1 << 17, -1 << 20, 1 << 20, 1 << 21, -1 << 24, 1 << 24, 1 << 25, 1 << 31, 1 << 32} {
		for n := middle - 9; n <= middle+9; n++ {
			all = append(all, n)
		}
	}
	return all
}

// P3.2: each field of each form at all probes, beside fields that are right, held against the chapter's words.
func TestRightFieldByField(t *testing.T) {
	all := probes()
	for _, x := range forms {
		for _, r := range rights[x.shape] {
			for field := range r {
				for _, n := range all {
					changed := r.with(field, n)
					if i := changed.of(x.form); i.Right() != expected(x.form, x.shape, changed) {
						t.Fatalf("Right of %+v: %t", i, i.Right())
					}
				}
			}
		}
	}
}

// P3.2: any two fields of each form together, at small numbers: what two fields may be together is not what each may be alone.
func TestRightTwoFields(t *testing.T) {
	for _, x := range forms {
		for _, r := range rights[x.shape] {
			for one := range r {
				for other := range one {
					for n := -1; n <= 16; n++ {
						for m := -1; m <= 33; m++ {
							changed := r.with(one, n).with(other, m)
							if i := changed.of(x.form); i.Right() != expected(x.form, x.shape, changed) {
								t.Fatalf("Right of %+v: %t", i, i.Right())
							}
						}
					}
				}
			}
		}
	}
}

// P3.2: all lists of registers, of Push and Pop.
func TestRightLists(t *testing.T) {
	for n := -70000; n <= 70000; n++ {
		low, upper := n&0xFF, n-n&0xFF
		push, pop := inst.Inst{Form: inst.Push, Regs: n}, inst.Inst{Form: inst.Pop, Regs: n}
		if push.Right() != (upper == 0 && low != 0 || upper == 0x4000) {
			t.Fatalf("Right of Push, Regs %#x: %t", n, push.Right())
		}
		if pop.Right() != (upper == 0 && low != 0 || upper == 0x8000) {
			t.Fatalf("Right of Pop, Regs %#x: %t", n, pop.Right())
		}
	}
}

// P3.2: Kind and By of each kind, in each form that shifts.
func TestRightKindAndBy(t *testing.T) {
	first, last := []int{0, 1, 1, 1}, []int{31, 32, 32, 31}
	for f := inst.AndShift; f <= inst.CmpShift; f++ {
		for k := -2; k <= 6; k++ {
			for n := -3; n <= 70; n++ {
				want := k >= 0 && k < 4 && n >= first[k&3] && n <= last[k&3]
				if i := (inst.Inst{Form: f, Kind: k, By: n}); i.Right() != want {
					t.Errorf("Right of %+v: %t", i, i.Right())
				}
			}
		}
	}
}

// P3.2: instructions of no form aren't right, whatever their fields are.
func TestRightNoForm(t *testing.T) {
	for _, f := range noForms {
		for _, list := range rights {
			for _, r := range list {
				if i := r.of(f); i.Right() {
					t.Errorf("%+v is right", i)
				}
			}
		}
		if (inst.Inst{Form: f}).Right() {
			t.Errorf("an instruction of %d is right", f)
		}
	}
}
