package term_test

import (
	"slices"
	"testing"

	"remontoire/api"
	"remontoire/term"
)

// P11.1: the chapter's example.
func TestExampleValue(t *testing.T) {
	evaluates(t, of(term.Add, term.At(0), term.Of(1)), []uint32{most}, 0)
}

// P11.1: values that are written out, of words and of numbers alike.
func TestValues(t *testing.T) {
	for _, x := range []struct {
		op         int
		a, b, want uint32
	}{
		{term.Or, 0, 0, 0}, {term.Or, 100, 7, 103}, {term.Or, 0xF0F0, 0x0FF0, 0xFFF0}, {term.Or, most, 0, most}, {term.Or, 0, 1 << 31, 1 << 31},
		{term.Xor, 0, 0, 0}, {term.Xor, 100, 7, 99}, {term.Xor, 0xF0F0, 0x0FF0, 0xFF00}, {term.Xor, most, most, 0}, {term.Xor, most, 1, most - 1},
		{term.And, 0, most, 0}, {term.And, 100, 7, 4}, {term.And, 0xF0F0, 0x0FF0, 0x00F0}, {term.And, most, most, most}, {term.And, 1 << 31, most, 1 << 31},
		{term.Eq, 0, 0, 1}, {term.Eq, 1, 1, 1}, {term.Eq, most, most, 1}, {term.Eq, 1, 0, 0}, {term.Eq, 0, 1, 0}, {term.Eq, 1 << 31, 0, 0}, {term.Eq, most, most - 1, 0}, {term.Eq, 1 << 16, 0, 0},
		{term.Lt, 0, 0, 0}, {term.Lt, 0, 1, 1}, {term.Lt, 1, 0, 0}, {term.Lt, 1<<31 - 1, 1 << 31, 1}, {term.Lt, 1 << 31, 1<<31 - 1, 0}, {term.Lt, 1, most, 1}, {term.Lt, most, 1, 0}, {term.Lt, most, most, 0}, {term.Lt, most - 1, most, 1},
		{term.Shl, 1, 0, 1}, {term.Shl, 1, 1, 2}, {term.Shl, 1, 31, 1 << 31}, {term.Shl, 2, 31, 0}, {term.Shl, 1, 32, 1}, {term.Shl, 7, 33, 14}, {term.Shl, 7, 63, 1 << 31}, {term.Shl, 7, 64, 7}, {term.Shl, most, most, 1 << 31}, {term.Shl, most, 4, most - 15}, {term.Shl, 3, 256, 3}, {term.Shl, 3, 1 << 31, 3},
		{term.Shr, 1, 0, 1}, {term.Shr, 2, 1, 1}, {term.Shr, 1, 1, 0}, {term.Shr, 1 << 31, 31, 1}, {term.Shr, 1 << 31, 32, 1 << 31}, {term.Shr, 100, 34, 25}, {term.Shr, most, 63, 1}, {term.Shr, most, 4, 1<<28 - 1}, {term.Shr, 9, 64, 9}, {term.Shr, most, most, 1}, {term.Shr, 9, 256, 9}, {term.Shr, 9, 1 << 31, 9},
		{term.Rol, 1, 0, 1}, {term.Rol, 1, 1, 2}, {term.Rol, 1 << 31, 1, 1}, {term.Rol, 0x12345678, 4, 0x23456781}, {term.Rol, 0x12345678, 28, 0x81234567}, {term.Rol, 0x12345678, 32, 0x12345678}, {term.Rol, 0x12345678, 36, 0x23456781}, {term.Rol, 1, 31, 1 << 31}, {term.Rol, 1, 63, 1 << 31}, {term.Rol, 2, most, 1}, {term.Rol, 0x12345678, 16, 0x56781234}, {term.Rol, 5, 64, 5},
		{term.Add, 0, 0, 0}, {term.Add, 100, 7, 107}, {term.Add, most, 1, 0}, {term.Add, most, most, most - 1}, {term.Add, 1 << 31, 1 << 31, 0}, {term.Add, 1<<31 - 1, 1, 1 << 31},
		{term.Sub, 0, 0, 0}, {term.Sub, 100, 7, 93}, {term.Sub, 7, 100, most - 92}, {term.Sub, 0, 1, most}, {term.Sub, 0, most, 1}, {term.Sub, 1 << 31, 1, 1<<31 - 1},
		{term.Mul, 0, most, 0}, {term.Mul, 100, 7, 700}, {term.Mul, 1 << 16, 1 << 16, 0}, {term.Mul, most, most, 1}, {term.Mul, 1 << 31, 3, 1 << 31}, {term.Mul, 1<<16 + 1, 1<<16 - 1, most}, {term.Mul, 1<<16 + 1, 1<<16 + 1, 1<<17 + 1},
		{term.Div, 0, 1, 0}, {term.Div, 100, 7, 14}, {term.Div, 7, 100, 0}, {term.Div, most, 1, most}, {term.Div, most, most, 1}, {term.Div, most, 2, 1<<31 - 1}, {term.Div, 1 << 31, most, 0}, {term.Div, 99, 100, 0}, {term.Div, 100, 100, 1}, {term.Div, 101, 100, 1}, {term.Div, most - 1, most, 0},
		{term.Mod, 0, 1, 0}, {term.Mod, 100, 7, 2}, {term.Mod, 7, 100, 7}, {term.Mod, most, 1, 0}, {term.Mod, most, most, 0}, {term.Mod, most, 2, 1}, {term.Mod, 1 << 31, most, 1 << 31}, {term.Mod, most, 1 << 31, 1<<31 - 1}, {term.Mod, 99, 100, 99}, {term.Mod, 100, 100, 0}, {term.Mod, most, 10, 5},
	} {
		evaluates(t, of(x.op, word(0), word(1)), []uint32{x.a, x.b}, x.want)
		evaluates(t, of(x.op, word(1), word(0)), []uint32{x.b, x.a}, x.want)
		evaluates(t, of(x.op, num(x.a), word(255)), append(make([]uint32, 255), x.b), x.want)
		evaluates(t, of(x.op, num(x.a), num(x.b)), nil, x.want)
	}
	for _, x := range [][3]uint32{{0, most, 0}, {1, most - 1, most}, {most, 0, 1}, {1 << 31, 1<<31 - 1, 1 << 31}, {7, most - 7, most - 6}, {0xF0F0F0F0, 0x0F0F0F0F, 0x0F0F0F10}} {
		evaluates(t, of(term.Not, word(0)), x[:1], x[1])
		evaluates(t, of(term.Neg, word(0)), x[:1], x[2])
		evaluates(t, of(term.Not, num(x[0])), nil, x[1])
		evaluates(t, of(term.Neg, num(x[0])), nil, x[2])
	}
}

// P11.1: each operator of all edges, against the model.
func TestEdgeValues(t *testing.T) {
	for _, a := range edges {
		for _, op := range ones {
			asModel(t, of(op, word(0)), []uint32{a})
		}
		for _, b := range edges {
			for _, op := range twos {
				asModel(t, of(op, word(0), word(1)), []uint32{a, b})
			}
		}
		for by := range uint32(70) {
			for _, op := range []int{term.Shl, term.Shr, term.Rol} {
				asModel(t, of(op, num(a), num(by)), nil)
			}
		}
	}
}

// P11.1: a variable has the word at its own place; those beyond are 0.
func TestWords(t *testing.T) {
	d := dice(3)
	for n := range 257 {
		words := d.words(n)
		for i := range uint32(256) {
			want := uint32(0)
			if int(i) < n {
				want = words[i]
			}
			evaluates(t, word(i), words, want)
		}
	}
	words := d.words(1000)
	for i := range uint32(256) {
		evaluates(t, word(i), words, words[i])
	}
	evaluates(t, of(term.Add, word(9), num(3)), nil, 3)
	evaluates(t, of(term.Sub, word(2), word(1)), []uint32{1, 5}, most-4)
	traps(t, of(term.Div, num(1), word(2)), []uint32{1, 5})
	evaluates(t, of(term.Div, word(2), num(7)), []uint32{1, 5}, 0)
	// What is behind a list's end is none of its words.
	evaluates(t, of(term.Add, word(1), word(2)), []uint32{1, 5, 7}[:2], 5)
}

// P11.1: it traps, if the second one of a Div or a Mod is 0, wherever that stands, whether it is asked for or not.
func TestTraps(t *testing.T) {
	x := word(0)
	for _, op := range []int{term.Div, term.Mod} {
		for _, a := range edges {
			for _, bad := range []term.Term{of(op, num(a), num(0)), of(op, num(a), word(1)), of(op, x, of(term.Xor, x, x)), of(op, x, of(term.Lt, x, num(a))), of(op, num(a), of(term.Not, num(most)))} {
				words := []uint32{a}
				traps(t, bad, words)
				for _, above := range ones {
					traps(t, of(above, bad), words)
				}
				for _, above := range twos {
					traps(t, of(above, bad, num(0)), words)
					traps(t, of(above, num(0), bad), words)
					traps(t, of(above, bad, num(1)), words)
					traps(t, of(above, num(1), bad), words)
					traps(t, of(above, num(most), of(above, num(1), bad)), words)
					traps(t, of(above, of(above, bad, num(2)), num(3)), words)
				}
				traps(t, chain(1000, bad), words)
			}
			evaluates(t, of(op, num(0), num(1)), []uint32{a}, 0)
			evaluates(t, of(term.Mul, of(op, num(0), of(term.Or, x, num(1))), num(a)), []uint32{a}, 0)
		}
	}
}

// P11.1: terms of all kinds, against the model.
func TestModel(t *testing.T) {
	d := dice(4)
	valued := 0
	for range 30000 {
		if asModel(t, d.term(d.below(8)), d.words(d.below(6))) {
			valued++
		}
	}
	if valued < 10000 || valued > 29000 {
		t.Errorf("%d have a value", valued)
	}
}

// P11.1: terms of MaxNodes nodes have their values, those that are as deep too.
func TestGreatValues(t *testing.T) {
	evaluates(t, chain(api.MaxNodes-1, word(0)), []uint32{5}, ^uint32(5))
	evaluates(t, chain(api.MaxNodes-2, word(0)), []uint32{5}, 5)
	evaluates(t, spine(term.Add, 8191, false, word(0), word(1)), []uint32{5, 3}, 5+8191*3)
	evaluates(t, spine(term.Add, 8191, true, word(0), word(1)), []uint32{5, 3}, 5+8191*3)
	evaluates(t, bush(term.Add, 13, word(0)), []uint32{3}, 3<<13)
	traps(t, spine(term.Add, 8190, true, of(term.Mod, word(0), word(2)), word(1)), []uint32{5, 3})
	traps(t, chain(api.MaxNodes-3, of(term.Div, word(0), word(2))), []uint32{5, 3})
}

// What is handed in is neither changed nor kept, its spare room neither, and a call tells the same, whatever was called ahead of it.
func TestUnchanged(t *testing.T) {
	d := dice(5)
	for range 300 {
		x, y := roomy(d.term(6)), roomy(d.term(4))
		l, low := []term.Term{y, word(3), num(7), word(8)}, d.words(6)
		high := slices.Repeat([]uint32{most}, 6)
		before := [...]string{dump(x), dump(whole(x)), dump(of(0, l...))}
		words := slices.Clone(low)
		first := told(x, l[:2:3], low[:3], high[:2])
		told(y, l, high, high)
		told(of(term.Div, num(1), num(0)), nil, nil, nil)
		if got := told(x, l[:2:3], low[:3], high[:2]); got != first {
			t.Errorf("%s: %v, and then %v", dump(x), first, got)
		}
		if after := [...]string{dump(x), dump(whole(x)), dump(of(0, l...))}; after != before {
			t.Errorf("%v is changed to %v", before, after)
		}
		if !slices.Equal(low, words) || !slices.Equal(high, slices.Repeat([]uint32{most}, 6)) {
			t.Error("the words are changed")
		}
	}
}

// answers are what all calls tell of a term.
type answers struct {
	right, same, ok bool
	value, low      uint32
	high            uint32
	count           int
	put, fold       string
}

func told(x term.Term, l []term.Term, low, high []uint32) answers {
	var a answers
	a.right, a.same, a.count = x.Right(), term.Same(x, x), term.Count(x)
	a.value, a.ok = term.Eval(x, low)
	a.low, a.high = term.Range(x, low, high)
	a.put, a.fold = dump(term.Put(x, l)), dump(term.Fold(x))
	return a
}

// roomy is a term in new memory, of which each list has spare room, with terms in it.
func roomy(t term.Term) term.Term {
	l := make([]term.Term, 0, len(t.List)+2)
	for _, x := range t.List {
		l = append(l, roomy(x))
	}
	n := len(l)
	l = append(l, num(77), word(88))
	t.List = l[:n]
	return t
}

// whole is a term with the spare room of all its lists.
func whole(t term.Term) term.Term {
	t.List = slices.Clone(t.List[:cap(t.List)])
	for i := range t.List {
		t.List[i] = whole(t.List[i])
	}
	return t
}
