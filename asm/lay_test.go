package asm_test

import (
	"bytes"
	"slices"
	"testing"

	"remontoire/api"
	"remontoire/asm"
	"remontoire/inst"
)

// P8.1: the chapter's example.
func TestExample(t *testing.T) {
	x := laid(t, items(asm.Here(1), asm.Do(nop), asm.Go(asm.Always, 1)))
	if len(x.Bytes) != 4 || at(t, x, 2) != (inst.Inst{Form: inst.B, Imm: -6}) {
		t.Errorf("%x", x.Bytes)
	}
}

// P8.1: programs of each kind of item: where each stands, how many bytes it has, how often it was laid, and its bytes.
func TestKindsLaid(t *testing.T) {
	bx := inst.Inst{Form: inst.Bx, Rm: 14}
	for what, x := range map[string]struct {
		l        []asm.Item
		at, size []int
		rounds   int
		want     []inst.Inst
	}{
		"nothing":             {nil, nil, nil, 1, nil},
		"an empty list":       {items(), nil, nil, 1, nil},
		"a narrow one":        {items(asm.Do(nop)), []int{0}, []int{2}, 1, []inst.Inst{nop}},
		"a wide one":          {items(asm.Do(wide)), []int{0}, []int{4}, 1, []inst.Inst{wide}},
		"both":                {items(asm.Do(wide), asm.Do(nop), asm.Do(wide)), []int{0, 4, 6}, []int{4, 2, 4}, 1, []inst.Inst{wide, nop, wide}},
		"a Bx":                {items(asm.Do(bx), asm.Do(nop)), []int{0, 2}, []int{2, 2}, 1, []inst.Inst{bx, nop}},
		"a Mark":              {items(asm.Here(9)), []int{0}, []int{0}, 1, nil},
		"Marks at one place":  {items(asm.Do(nop), asm.Here(9), asm.Here(8)), []int{0, 2, 2}, []int{2, 0, 0}, 1, []inst.Inst{nop}},
		"an Align, for none":  {items(asm.Pad(16)), []int{0}, []int{0}, 1, nil},
		"an Align":            {items(asm.Do(nop), asm.Pad(8), asm.Here(2)), []int{0, 2, 8}, []int{2, 6, 0}, 1, []inst.Inst{nop, nop, nop, nop}},
		"Aligns":              {items(asm.Do(nop), asm.Pad(4), asm.Pad(4), asm.Pad(8)), []int{0, 2, 4, 4}, []int{2, 2, 0, 4}, 1, []inst.Inst{nop, nop, nop, nop}},
		"a Jump to itself":    {items(asm.Here(2), asm.Go(asm.Always, 2)), []int{0, 0}, []int{0, 2}, 1, []inst.Inst{{Form: inst.B, Imm: -4}}},
		"a Jump to the next":  {items(asm.Go(5, 2), asm.Here(2)), []int{0, 2}, []int{2, 0}, 1, []inst.Inst{{Form: inst.Bcond, Cond: 5, Imm: -2}}},
		"Jumps to one place":  {items(asm.Go(13, 2), asm.Go(asm.Always, 2), asm.Here(2)), []int{0, 2, 4}, []int{2, 2, 0}, 1, []inst.Inst{{Form: inst.Bcond, Cond: 13}, {Form: inst.B, Imm: -2}}},
		"Jumps to each other": {items(asm.Here(0), asm.Go(0, 65535), asm.Here(65535), asm.Go(asm.Always, 0)), []int{0, 0, 2, 2}, []int{0, 2, 0, 2}, 1, []inst.Inst{{Form: inst.Bcond, Imm: -2}, {Form: inst.B, Imm: -6}}},
	} {
		got := laid(t, x.l)
		if !slices.Equal(got.At, x.at) || !slices.Equal(got.Size, x.size) || got.Rounds != x.rounds {
			t.Errorf("%s: at %d, sizes %d, %d rounds, not %d, %d, %d", what, got.At, got.Size, got.Rounds, x.at, x.size, x.rounds)
		}
		if want := bytesOf(t, x.want...); !bytes.Equal(got.Bytes, want) {
			t.Errorf("%s: %x, not %x", what, got.Bytes, want)
		}
	}
}

// P8.1: Aligns at all offsets: as many Nops as are needed, also none.
func TestAligns(t *testing.T) {
	for _, to := range []int{4, 8, 16} {
		for n := 0; n <= 64; n += 2 {
			x := laid(t, joined(nops(n), items(asm.Pad(to), asm.Do(wide))))
			next := (n + to - 1) / to * to
			last := len(x.At) - 1
			if x.At[last-1] != n || x.Size[last-1] != next-n || x.At[last] != next {
				t.Errorf("Align to %d at %d: %d bytes at %d, then %d", to, n, x.Size[last-1], x.At[last-1], x.At[last])
			}
			if want := bytesOf(t, append(slices.Repeat([]inst.Inst{nop}, next/2), wide)...); !bytes.Equal(x.Bytes, want) {
				t.Errorf("Align to %d at %d: %x, not %x", to, n, x.Bytes, want)
			}
		}
	}
}

// reach is a Jump over some bytes, forward or back.
type reach struct {
	cond, between int
	back          bool
	want          inst.Inst
}

func (r reach) items() []asm.Item {
	if r.back {
		return joined(items(asm.Here(7)), nops(r.between), items(asm.Go(r.cond, 7)))
	}
	return joined(items(asm.Go(r.cond, 7)), nops(r.between), items(asm.Here(7)))
}

// holds looks at the Jump, and at how often the program was laid: twice, if the Jump was made wide.
func (r reach) holds(t *testing.T) {
	t.Helper()
	l := r.items()
	x := laid(t, l)
	jump := 0
	if r.back {
		jump = len(l) - 1
	}
	rounds := 1
	if r.want.Form.Wide() {
		rounds = 2
	}
	if got := at(t, x, jump); got != r.want || x.Size[jump] != r.want.Bytes() || x.Rounds != rounds || len(x.Bytes) != r.between+r.want.Bytes() {
		t.Errorf("%+v: %+v of %d bytes, %d rounds, %d bytes in all", r, got, x.Size[jump], x.Rounds, len(x.Bytes))
	}
}

// P8.1, P8.3: Jumps forward and back, with a condition and without, that just reach as narrow ones, and that just don't.
func TestReach(t *testing.T) {
	for cond := range 14 {
		for _, r := range []reach{
			{cond, 254, false, inst.Inst{Form: inst.Bcond, Cond: cond, Imm: 252}},
			{cond, 256, false, inst.Inst{Form: inst.Bcond, Cond: cond, Imm: 254}},
			{cond, 258, false, inst.Inst{Form: inst.BcondWide, Cond: cond, Imm: 258}},
			{cond, 250, true, inst.Inst{Form: inst.Bcond, Cond: cond, Imm: -254}},
			{cond, 252, true, inst.Inst{Form: inst.Bcond, Cond: cond, Imm: -256}},
			{cond, 254, true, inst.Inst{Form: inst.BcondWide, Cond: cond, Imm: -258}},
			{cond, 60000, false, inst.Inst{Form: inst.BcondWide, Cond: cond, Imm: 60000}},
			{cond, 60000, true, inst.Inst{Form: inst.BcondWide, Cond: cond, Imm: -60004}},
		} {
			r.holds(t)
		}
	}
	for _, r := range []reach{
		{asm.Always, 2046, false, inst.Inst{Form: inst.B, Imm: 2044}},
		{asm.Always, 2048, false, inst.Inst{Form: inst.B, Imm: 2046}},
		{asm.Always, 2050, false, inst.Inst{Form: inst.BWide, Imm: 2050}},
		{asm.Always, 2042, true, inst.Inst{Form: inst.B, Imm: -2046}},
		{asm.Always, 2044, true, inst.Inst{Form: inst.B, Imm: -2048}},
		{asm.Always, 2046, true, inst.Inst{Form: inst.BWide, Imm: -2050}},
		{asm.Always, 65532, false, inst.Inst{Form: inst.BWide, Imm: 65532}},
		{asm.Always, 65532, true, inst.Inst{Form: inst.BWide, Imm: -65536}},
	} {
		r.holds(t)
	}
}

// shows holds which Jumps are wide, and how often a program was laid, against what must be.
func shows(t *testing.T, what string, l []asm.Item, rounds int, want ...int) {
	t.Helper()
	x := laid(t, l)
	var sizes []int
	for i, item := range l {
		if item.Kind == asm.Jump {
			sizes = append(sizes, x.Size[i])
		}
	}
	if !slices.Equal(sizes, want) || x.Rounds != rounds {
		t.Errorf("%s: Jumps of %d bytes in %d rounds, not of %d in %d", what, sizes, x.Rounds, want, rounds)
	}
	asModel(t, what, l)
}

// P8.1, P8.3: a Jump that is made wide because another one was, so that the program is laid a third time; where the other one stays narrow, it does too.
func TestThirdTime(t *testing.T) {
	forward := func(more int) []asm.Item {
		return joined(items(asm.Go(0, 1), asm.Go(1, 2)), nops(254), items(asm.Here(1)), nops(more), items(asm.Here(2)))
	}
	shows(t, "forward", forward(4), 3, 4, 4)
	shows(t, "forward, where both reach", forward(2), 1, 2, 2)
	back := func(more int) []asm.Item {
		return joined(items(asm.Here(2)), nops(more), items(asm.Here(1)), nops(250), items(asm.Go(1, 2), asm.Go(2, 1)))
	}
	shows(t, "back", back(4), 3, 4, 4)
	shows(t, "back, where both reach", back(2), 1, 2, 2)
	shows(t, "a chain of 2", chain(2), 3, 4, 4)
	shows(t, "a chain of 40", chain(40), 41, slices.Repeat([]int{4}, 40)...)
}

// chain is a program of which in each round but the last just one Jump doesn't reach: the last one first.
func chain(jumps int) []asm.Item {
	var l []asm.Item
	for n := range jumps {
		l = append(l, asm.Go(n%14, n))
		if n > 0 {
			l = append(l, asm.Here(n-1))
		}
		l = append(l, nops(254)...)
	}
	return joined(l, nops(4), items(asm.Here(jumps-1)))
}

// P8.1: all that don't reach are made wide at one time, not one by one, from either end.
func TestAtOneTime(t *testing.T) {
	shows(t, "four of six", joined(items(asm.Go(0, 1), asm.Go(1, 1), asm.Go(asm.Always, 1)), nops(260), items(asm.Here(1)), nops(260), items(asm.Go(asm.Always, 1), asm.Go(2, 1), asm.Go(3, 1))), 2, 4, 4, 2, 2, 4, 4)
	// Had the first one, of two that don't reach, been made wide alone, the second one would reach then.
	l := joined(items(asm.Go(0, 9)), nops(10), items(asm.Go(1, 1)), nops(250), items(asm.Pad(16), asm.Here(1)), nops(16), items(asm.Here(9)))
	shows(t, "both", l, 2, 4, 4)
}

// P8.1, P8.3: a Jump that was made wide stays so, though it would reach at last: the Align takes what is more ahead of it.
func TestStaysWide(t *testing.T) {
	l := joined(items(asm.Go(0, 9)), nops(10), items(asm.Go(1, 1)), nops(250), items(asm.Pad(16), asm.Here(1)), nops(16), items(asm.Here(9)))
	x := laid(t, l)
	mark := slices.Index(l, asm.Here(1))
	if x.At[6] != 14 || x.At[mark] != 272 || at(t, x, 6) != (inst.Inst{Form: inst.BcondWide, Cond: 1, Imm: 254}) {
		t.Errorf("%+v at %d, to %d", at(t, x, 6), x.At[6], x.At[mark])
	}
}

// P8.1: a Mark at the end, labels as far as they are, and a program of just MaxImage bytes, as many only when it is laid again.
func TestWholeImage(t *testing.T) {
	around := func(l []asm.Item) []asm.Item {
		return joined(items(asm.Here(0), asm.Go(asm.Always, 65535)), l, items(asm.Go(13, 0), asm.Here(65535)))
	}
	l := around(wides(65528))
	x := laid(t, l)
	if len(x.Bytes) != api.MaxImage || at(t, x, 1) != (inst.Inst{Form: inst.BWide, Imm: 65532}) || at(t, x, len(l)-2) != (inst.Inst{Form: inst.BcondWide, Cond: 13, Imm: -65536}) {
		t.Errorf("%d bytes", len(x.Bytes))
	}
	if end, ok := x.Label(l, 65535); end != api.MaxImage || !ok {
		t.Errorf("the end's label stands at %d, %t", end, ok)
	}
	asModel(t, "a whole image", l)
	refused(t, "two bytes more, when it is laid again", around(joined(wides(65528), nops(2))), api.ErrBig)
	refused(t, "four bytes more, when it is laid again", around(wides(65532)), api.ErrBig)
}
