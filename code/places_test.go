package code_test

import (
	"remontoire/inst"
)

// The fields of an instruction beside its form, by their places in a row.
const (
	rd = iota
	rn
	rm
	ra
	im
	kind
	by
	set
	cond
	regs
	fields
)

// row is an instruction's fields, so that a test can go through them.
type row [fields]int

func (r row) of(f inst.Form) inst.Inst {
	return inst.Inst{
		Form: f, Rd: r[rd], Rn: r[rn], Rm: r[rm], Ra: r[ra], Imm: r[im],
		Kind: r[kind], By: r[by], Set: r[set], Cond: r[cond], Regs: r[regs],
	}
}

func rowOf(i inst.Inst) row {
	return row{
		rd: i.Rd, rn: i.Rn, rm: i.Rm, ra: i.Ra, im: i.Imm,
		kind: i.Kind, by: i.By, set: i.Set, cond: i.Cond, regs: i.Regs,
	}
}

// place is a row of the chapter's table, piece by piece: the field's bits from high down to low stand at bits up.
type place struct {
	field, high, low, at int
}

// places is the chapter's table; the two bits of a wide jump that hang on its sign stand in expectedBits and expectedOf.
var places = map[inst.Shape][]place{
	inst.ShShift:    {{im, 4, 0, 6}, {rm, 2, 0, 3}, {rd, 2, 0, 0}},
	inst.ShThree:    {{rm, 2, 0, 6}, {rn, 2, 0, 3}, {rd, 2, 0, 0}},
	inst.ShTiny:     {{im, 2, 0, 6}, {rn, 2, 0, 3}, {rd, 2, 0, 0}},
	inst.ShByte:     {{rd, 2, 0, 8}, {im, 7, 0, 0}},
	inst.ShTwo:      {{rm, 2, 0, 3}, {rd, 2, 0, 0}},
	inst.ShHigh:     {{rd, 3, 3, 7}, {rm, 3, 0, 3}, {rd, 2, 0, 0}},
	inst.ShBx:       {{rm, 3, 0, 3}},
	inst.ShLit:      {{rd, 2, 0, 8}, {im, 9, 2, 0}},
	inst.ShOff:      {{im, 6, 2, 6}, {rn, 2, 0, 3}, {rd, 2, 0, 0}},
	inst.ShInc:      {{im, 8, 2, 0}},
	inst.ShPush:     {{regs, 14, 14, 8}, {regs, 7, 0, 0}},
	inst.ShPop:      {{regs, 15, 15, 8}, {regs, 7, 0, 0}},
	inst.ShNone:     {},
	inst.ShBkpt:     {{im, 7, 0, 0}},
	inst.ShCond:     {{cond, 3, 0, 8}, {im, 8, 1, 0}},
	inst.ShJump:     {{im, 11, 1, 0}},
	inst.ShMovw:     {{im, 11, 11, 26}, {im, 15, 12, 16}, {im, 10, 8, 12}, {rd, 3, 0, 8}, {im, 7, 0, 0}},
	inst.ShImm:      {{im, 11, 11, 26}, {set, 0, 0, 20}, {rn, 3, 0, 16}, {im, 10, 8, 12}, {rd, 3, 0, 8}, {im, 7, 0, 0}},
	inst.ShImmTo:    {{im, 11, 11, 26}, {set, 0, 0, 20}, {im, 10, 8, 12}, {rd, 3, 0, 8}, {im, 7, 0, 0}},
	inst.ShImmOf:    {{im, 11, 11, 26}, {rn, 3, 0, 16}, {im, 10, 8, 12}, {im, 7, 0, 0}},
	inst.ShBarrel:   {{set, 0, 0, 20}, {rn, 3, 0, 16}, {by, 4, 2, 12}, {rd, 3, 0, 8}, {by, 1, 0, 6}, {kind, 1, 0, 4}, {rm, 3, 0, 0}},
	inst.ShBarrelTo: {{set, 0, 0, 20}, {by, 4, 2, 12}, {rd, 3, 0, 8}, {by, 1, 0, 6}, {kind, 1, 0, 4}, {rm, 3, 0, 0}},
	inst.ShBarrelOf: {{rn, 3, 0, 16}, {by, 4, 2, 12}, {by, 1, 0, 6}, {kind, 1, 0, 4}, {rm, 3, 0, 0}},
	inst.ShPlain:    {{im, 11, 11, 26}, {rn, 3, 0, 16}, {im, 10, 8, 12}, {rd, 3, 0, 8}, {im, 7, 0, 0}},
	inst.ShLoad:     {{rn, 3, 0, 16}, {rd, 3, 0, 12}, {im, 11, 0, 0}},
	inst.ShIndex:    {{rn, 3, 0, 16}, {rd, 3, 0, 12}, {by, 1, 0, 4}, {rm, 3, 0, 0}},
	inst.ShTurn:     {{set, 0, 0, 20}, {rn, 3, 0, 16}, {rd, 3, 0, 8}, {rm, 3, 0, 0}},
	inst.ShMul:      {{rn, 3, 0, 16}, {rd, 3, 0, 8}, {rm, 3, 0, 0}},
	inst.ShMla:      {{rn, 3, 0, 16}, {ra, 3, 0, 12}, {rd, 3, 0, 8}, {rm, 3, 0, 0}},
	inst.ShMls:      {{rn, 3, 0, 16}, {ra, 3, 0, 12}, {rd, 3, 0, 8}, {rm, 3, 0, 0}},
	inst.ShLong:     {{rn, 3, 0, 16}, {rd, 3, 0, 12}, {ra, 3, 0, 8}, {rm, 3, 0, 0}},
	inst.ShClz:      {{rm, 3, 0, 16}, {rd, 3, 0, 8}, {rm, 3, 0, 0}},
	inst.ShCondWide: {{im, 20, 20, 26}, {cond, 3, 0, 22}, {im, 17, 12, 16}, {im, 18, 18, 13}, {im, 19, 19, 11}, {im, 11, 1, 0}},
	inst.ShJumpWide: {{im, 24, 24, 26}, {im, 21, 12, 16}, {im, 11, 1, 0}},
}

// signs are the highest bits of the numbers that may be negative.
var signs = map[inst.Shape]int{inst.ShCond: 8, inst.ShJump: 11, inst.ShCondWide: 20, inst.ShJumpWide: 24}

// expectedBits are a right instruction's bits by the chapter's table, bit by bit.
func expectedBits(i inst.Inst) uint32 {
	word, r, s := i.Form.Bits(), rowOf(i), i.Form.Shape()
	for _, p := range places[s] {
		for n := 0; n <= p.high-p.low; n++ {
			if r[p.field]>>(p.low+n)&1 == 1 {
				word |= 1 << (p.at + n)
			}
		}
	}
	if s == inst.ShJumpWide {
		sign := i.Imm < 0
		if (i.Imm&(1<<23) != 0) == sign {
			word |= 1 << 13
		}
		if (i.Imm&(1<<22) != 0) == sign {
			word |= 1 << 11
		}
	}
	return word
}

// expectedOf is, by the chapter's table, the right instruction that has these bits, if there is one.
func expectedOf(word uint32, wide bool) (inst.Inst, bool) {
	first, last := inst.LslImm, inst.B
	if wide {
		first, last = inst.Movw, inst.BWide
	}
	for f := first; f <= last; f++ {
		r := readPlaces(word, f.Shape())
		for _, n := range []int{r[im], 32} {
			for _, m := range []int{r[by], 32} {
				r[im], r[by] = n, m
				if i := r.of(f); i.Right() && expectedBits(i) == word {
					return i, true
				}
			}
		}
	}
	return inst.Inst{}, false
}

// readPlaces are the fields that the places of a shape give.
func readPlaces(word uint32, s inst.Shape) row {
	var r row
	for _, p := range places[s] {
		for n := 0; n <= p.high-p.low; n++ {
			r[p.field] |= int(word>>(p.at+n)&1) << (p.low + n)
		}
	}
	if s == inst.ShJumpWide {
		sign := word >> 26 & 1
		if word>>13&1 == 1 && sign == 1 || word>>13&1 == 0 && sign == 0 {
			r[im] |= 1 << 23
		}
		if word>>11&1 == 1 && sign == 1 || word>>11&1 == 0 && sign == 0 {
			r[im] |= 1 << 22
		}
	}
	if sign, ok := signs[s]; ok && r[im]>>sign&1 == 1 {
		r[im] -= 2 << sign
	}
	return r
}

// candidates are numbers that a field may be, and some that it may not be.
func candidates(field int, s inst.Shape) []int {
	switch field {
	case im:
		return immCandidates(s)
	case by:
		return from(-1, 33, 1)
	case kind:
		return from(-1, 4, 1)
	case set:
		return from(-1, 2, 1)
	case regs:
		return append(append(from(0, 256, 1), from(1<<14, 1<<14+256, 1)...), from(1<<15, 1<<15+256, 1)...)
	}
	return from(-1, 16, 1)
}

func immCandidates(s inst.Shape) []int {
	switch s {
	case inst.ShJump:
		return from(-2050, 2050, 1)
	case inst.ShCond:
		return from(-260, 260, 1)
	case inst.ShMovw:
		return from(-1, 65536, 1)
	case inst.ShCondWide:
		return append(about(20), from(-1<<20, 1<<20, 1022)...)
	case inst.ShJumpWide:
		return append(about(24), from(-1<<24, 1<<24, 8190)...)
	case inst.ShLit, inst.ShInc:
		return from(-4, 1028, 1)
	case inst.ShShift, inst.ShTiny:
		return from(-1, 33, 1)
	case inst.ShByte, inst.ShBkpt, inst.ShOff:
		return from(-1, 257, 1)
	}
	return from(-1, 4097, 1)
}

func from(first, last, step int) []int {
	var list []int
	for n := first; n <= last; n += step {
		list = append(list, n)
	}
	return list
}

// about are numbers about nought and about each power of two up to the one of that many bits, with both signs.
func about(most int) []int {
	var list []int
	for n := 0; n <= most; n++ {
		for m := -4; m <= 4; m++ {
			list = append(list, 1<<n+m, -1<<n+m)
		}
	}
	return list
}

// fieldsOf are the fields that a shape has, each once.
func fieldsOf(s inst.Shape) []int {
	var there [fields]bool
	for _, p := range places[s] {
		there[p.field] = true
	}
	var list []int
	for field, ok := range there {
		if ok {
			list = append(list, field)
		}
	}
	return list
}

// rightOnes hands on the right instructions of a form, of all that the candidates of its fields make together.
func rightOnes(f inst.Form, take func(inst.Inst)) {
	list := fieldsOf(f.Shape())
	var r row
	var fill func(n int)
	fill = func(n int) {
		if n == len(list) {
			if i := r.of(f); i.Right() {
				take(i)
			}
			return
		}
		for _, value := range candidates(list[n], f.Shape()) {
			r[list[n]] = value
			fill(n + 1)
		}
	}
	fill(0)
}

// dice tells numbers that look as if they were any, always the same ones.
type dice uint64

func (d *dice) below(n int) int {
	*d = *d*6364136223846793005 + 1442695040888963407
	return int(uint64(*d) >> 33 % uint64(n))
}

func (d *dice) word() uint32 { return uint32(d.below(1<<16))<<16 | uint32(d.below(1<<16)) }

// someRight hands on so many right instructions of a form, with fields as the dice fall.
func someRight(f inst.Form, many int, take func(inst.Inst)) {
	d := dice(f)
	list := fieldsOf(f.Shape())
	var may [fields][]int
	for _, field := range list {
		may[field] = candidates(field, f.Shape())
	}
	for many > 0 {
		var r row
		for _, field := range list {
			r[field] = may[field][d.below(len(may[field]))]
		}
		if i := r.of(f); i.Right() {
			take(i)
			many--
		}
	}
}
