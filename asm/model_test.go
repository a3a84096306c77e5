package asm_test

import (
	"slices"
	"testing"

	"remontoire/api"
	"remontoire/asm"
	"remontoire/inst"
)

// model lays a program as the chapter says it, with a set of the Jumps that are wide.
type model struct {
	l      []asm.Item
	wide   map[int]bool
	rounds int
}

// offsets are where the items stand, and behind the last one where the end is.
func (m *model) offsets() []int {
	at := []int{0}
	for i, x := range m.l {
		next := at[i]
		switch {
		case x.Kind == asm.Code:
			next += x.Inst.Form.Size()
		case x.Kind == asm.Jump && m.wide[i]:
			next += 4
		case x.Kind == asm.Jump:
			next += 2
		case x.Kind == asm.Align:
			for next%x.To != 0 {
				next += 2
			}
		}
		at = append(at, next)
	}
	return at
}

// far is how far a Jump goes, from four bytes behind where it stands.
func (m *model) far(at []int, jump int) int {
	return at[slices.Index(m.l, asm.Here(m.l[jump].Label))] - at[jump] - 4
}

// reaches tells whether a narrow Jump goes so far.
func reaches(cond, far int) bool {
	if cond == asm.Always {
		return -2048 <= far && far <= 2046
	}
	return -256 <= far && far <= 254
}

// lay tells where the items stand, or false, if they are too many bytes in some round.
func (m *model) lay() ([]int, bool) {
	m.wide = map[int]bool{}
	for {
		m.rounds++
		at := m.offsets()
		if at[len(m.l)] > api.MaxImage {
			return nil, false
		}
		var more []int
		for i, x := range m.l {
			if x.Kind == asm.Jump && !m.wide[i] && !reaches(x.Cond, m.far(at, i)) {
				more = append(more, i)
			}
		}
		if len(more) == 0 {
			return at, true
		}
		for _, i := range more {
			m.wide[i] = true
		}
	}
}

// code are the instructions that an item is, as the program is laid at last.
func (m *model) code(at []int, i int) []inst.Inst {
	x := m.l[i]
	switch x.Kind {
	case asm.Code:
		return []inst.Inst{x.Inst}
	case asm.Align:
		return slices.Repeat([]inst.Inst{nop}, (at[i+1]-at[i])/2)
	case asm.Jump:
		forms := map[bool]inst.Form{false: inst.Bcond, true: inst.BcondWide}
		if x.Cond == asm.Always {
			return []inst.Inst{{Form: map[bool]inst.Form{false: inst.B, true: inst.BWide}[m.wide[i]], Imm: m.far(at, i)}}
		}
		return []inst.Inst{{Form: forms[m.wide[i]], Cond: x.Cond, Imm: m.far(at, i)}}
	}
	return nil
}

// asModel holds all that Lay and Label tell of a program against the model, and tells how often it was laid.
func asModel(t *testing.T, what string, l []asm.Item) int {
	t.Helper()
	m := &model{l: l}
	at, ok := m.lay()
	if !ok {
		refused(t, what, l, api.ErrBig)
		return m.rounds
	}
	x := laid(t, l)
	var sizes []int
	var code []inst.Inst
	for i := range l {
		sizes = append(sizes, at[i+1]-at[i])
		code = append(code, m.code(at, i)...)
	}
	if x.Rounds != m.rounds || !slices.Equal(x.At, at[:len(l)]) || !slices.Equal(x.Size, sizes) {
		t.Errorf("%s: %d rounds, at %d, sizes %d, not %d, %d, %d", what, x.Rounds, x.At, x.Size, m.rounds, at, sizes)
	}
	if !slices.Equal(x.Bytes, bytesOf(t, code...)) {
		t.Errorf("%s: other bytes than of %+v", what, code)
	}
	for i, item := range l {
		if item.Kind != asm.Mark {
			continue
		}
		if where, ok := x.Label(l, item.Label); where != at[i] || !ok {
			t.Errorf("%s: the label %d stands at %d, %t, not at %d", what, item.Label, where, ok, at[i])
		}
	}
	return m.rounds
}

// program is one of items of all kinds, as the dice fall.
func program(d *dice) []asm.Item {
	var l []asm.Item
	labels := 0
	for range 5 + d.below(40) {
		switch d.below(6) {
		case 0:
			l = append(l, nops(2*d.below(60))...)
		case 1:
			l = append(l, wides(4*d.below(40))...)
		case 2:
			l = append(l, asm.Pad(4<<d.below(3)))
		case 3, 4:
			l = append(l, asm.Go(d.below(15)-1, d.below(20)*3277))
		case 5:
			if labels < 20 {
				l = append(l, asm.Here(labels*3277))
				labels++
			}
		}
	}
	for ; labels < 20; labels++ {
		place := d.below(len(l) + 1)
		l = slices.Insert(l, place, asm.Here(labels*3277))
	}
	return l
}

// tight is a program of conditional Jumps, forward and back, that just reach, or just don't, and that go over one another.
func tight(d *dice) []asm.Item {
	var l []asm.Item
	jumps := 10 + d.below(30)
	for i := range jumps {
		l = append(l, asm.Go(d.below(14), i))
		l = append(l, nops(2*d.below(12))...)
		if d.below(5) == 0 {
			l = append(l, asm.Pad(4<<d.below(3)))
		}
	}
	for i := range jumps {
		l = slices.Insert(l, tightPlace(d, l, i), asm.Here(i))
	}
	return l
}

// tightPlace is where a label can stand, so that its Jump just reaches it, or just doesn't.
func tightPlace(d *dice, l []asm.Item, label int) int {
	at := (&model{l: l}).offsets()
	goal := at[slices.IndexFunc(l, func(x asm.Item) bool { return x.Kind == asm.Jump && x.Label == label })] + 4
	if slack := 2 * (d.below(9) - 1); d.below(2) == 0 {
		goal += 254 - slack
	} else {
		goal -= 256 - slack
	}
	if place := slices.IndexFunc(at, func(x int) bool { return x >= goal }); place >= 0 {
		return place
	}
	return len(l)
}

// P8.1 to P8.3: programs of all kinds, against the model.
func TestModel(t *testing.T) {
	d := dice(8)
	rounds := map[int]int{}
	for range 600 {
		rounds[asModel(t, "any", program(&d))]++
		rounds[asModel(t, "tight", tight(&d))]++
		if t.Failed() {
			return
		}
	}
	// The programs would tell less if few of them were laid more than once or twice.
	for n := 1; n <= 4; n++ {
		if rounds[n] < 10 {
			t.Errorf("%d programs were laid %d times: %v", rounds[n], n, rounds)
		}
	}
}
