package term_test

import (
	"math/big"
	"slices"
	"testing"

	"remontoire/api"
	"remontoire/term"
)

// P11.3: the chapter's example.
func TestExampleRange(t *testing.T) {
	ranges(t, of(term.Mod, term.At(0), term.Of(10)), nil, nil, 0, 9)
}

// P11.3: spans of a number and a variable: a variable's ends are at its own place, those beyond a list are 0 and the greatest word.
func TestLeafRanges(t *testing.T) {
	d := dice(21)
	for n := range 258 {
		low, high := sorted(d.words(n), d.words(n))
		for i := range uint32(256) {
			from, to := uint32(0), uint32(most)
			if int(i) < n {
				from, to = low[i], high[i]
			}
			ranges(t, word(i), low, high, from, to)
			ranges(t, word(i), low, nil, from, most)
			ranges(t, word(i), nil, high, 0, to)
		}
	}
	for _, n := range edges {
		ranges(t, num(n), nil, nil, n, n)
		ranges(t, num(n), []uint32{1, 2}, []uint32{3, 4}, n, n)
	}
	ranges(t, word(1), []uint32{1, 2, 3}[:1], []uint32{4, 5, 6}[:1], 0, most)
}

// sorted are words and others, of which at each place the lesser one is among the first.
func sorted(a, b []uint32) ([]uint32, []uint32) {
	for i := range a {
		a[i], b[i] = min(a[i], b[i]), max(a[i], b[i])
	}
	return a, b
}

// P11.3: spans that are written out, with each row of the table and its edges: x from a to b, y from c to d.
func TestRanges(t *testing.T) {
	const all = most
	for _, x := range []struct{ op, a, b, c, d, from, to uint32 }{
		{term.Or, 1, 2, 4, 8, 0, all}, {term.Or, 0, 0, 0, 0, 0, all}, {term.Xor, 1, 2, 4, 8, 0, all}, {term.Xor, 0, 0, 0, 0, 0, all}, {term.Shl, 1, 2, 0, 0, 0, all}, {term.Shl, 0, 0, 1, 1, 0, all}, {term.Rol, 1, 2, 0, 0, 0, all}, {term.Rol, 0, 0, 5, 5, 0, all},
		{term.And, 3, 100, 2, 7, 0, 7}, {term.And, 2, 7, 3, 100, 0, 7}, {term.And, 5, 5, 5, 5, 0, 5}, {term.And, 4, 4, 6, 6, 0, 4}, {term.And, 0, all, 0, all, 0, all}, {term.And, 0, all, 0, 0, 0, 0}, {term.And, all, all, all, all, 0, all},
		{term.Eq, 1, 1, 1, 1, 0, 1}, {term.Eq, 1, 1, 2, 2, 0, 1}, {term.Eq, 0, all, 0, all, 0, 1}, {term.Lt, 1, 1, 2, 2, 0, 1}, {term.Lt, 2, 2, 1, 1, 0, 1}, {term.Lt, 0, 0, 0, 0, 0, 1}, {term.Lt, 0, all, 0, all, 0, 1},
		{term.Shr, 3, 100, 1, 2, 0, 100}, {term.Shr, 3, 100, 0, 0, 0, 100}, {term.Shr, all, all, 31, 31, 0, all}, {term.Shr, 0, 0, 0, 9, 0, 0}, {term.Shr, 5, 6, 100, 200, 0, 6},
		{term.Add, 1, 2, 10, 20, 11, 22}, {term.Add, 0, 0, 0, 0, 0, 0}, {term.Add, 0, all, 0, 0, 0, all}, {term.Add, 0, 0, 0, all, 0, all}, {term.Add, 0, all, 0, 1, 0, all}, {term.Add, 5, all, 7, 7, 0, all}, {term.Add, 5, 1 << 31, 7, 1 << 31, 0, all}, {term.Add, 5, 1 << 31, 7, 1<<31 - 1, 12, all}, {term.Add, 5, 1<<31 - 1, 7, 1 << 31, 12, all}, {term.Add, all, all, all, all, 0, all}, {term.Add, all, all, 0, 0, all, all}, {term.Add, all, all, 1, 1, 0, all}, {term.Add, 3, 4, all - 4, all - 4, all - 1, all}, {term.Add, 3, 4, all - 3, all - 3, 0, all},
		{term.Sub, 10, 20, 1, 2, 8, 19}, {term.Sub, 10, 20, 3, 10, 0, 17}, {term.Sub, 10, 20, 3, 11, 0, all}, {term.Sub, 10, 20, 10, 10, 0, 10}, {term.Sub, 10, 20, 11, 11, 0, all}, {term.Sub, 10, 10, 10, 10, 0, 0}, {term.Sub, 0, all, 0, 0, 0, all}, {term.Sub, 1, all, 0, 1, 0, all}, {term.Sub, 1, all, 1, 1, 0, all - 1}, {term.Sub, all, all, 0, all, 0, all}, {term.Sub, all, all, 5, 6, all - 6, all - 5}, {term.Sub, 0, 0, 0, 0, 0, 0}, {term.Sub, 0, 0, 0, 1, 0, all}, {term.Sub, 9, 10, 0, 10, 0, all},
		{term.Mul, 2, 5, 3, 7, 6, 35}, {term.Mul, 0, 5, 3, 7, 0, 35}, {term.Mul, 2, 5, 0, 0, 0, 0}, {term.Mul, 1, all, 1, 1, 1, all}, {term.Mul, 3, all, 0, 0, 0, 0}, {term.Mul, 2, 1 << 16, 3, 1 << 16, 0, all}, {term.Mul, 2, 1<<16 + 1, 3, 1<<16 - 1, 6, all}, {term.Mul, 2, 1<<16 - 1, 3, 1<<16 + 1, 6, all}, {term.Mul, 1, 1 << 31, 1, 2, 0, all}, {term.Mul, 1, 1<<31 - 1, 1, 2, 1, all - 1}, {term.Mul, all, all, all, all, 0, all}, {term.Mul, 1, 2, 1, 1 << 31, 0, all}, {term.Mul, 1<<16 + 1, 1<<16 + 1, 1<<16 - 1, 1<<16 - 1, all, all},
		{term.Div, 10, 100, 3, 7, 1, 33}, {term.Div, 10, 100, 0, 7, 1, 100}, {term.Div, 10, 100, 1, 7, 1, 100}, {term.Div, 10, 100, 0, 0, 10, 100}, {term.Div, 10, 100, 0, 1, 10, 100}, {term.Div, 10, 100, 2, 2, 5, 50}, {term.Div, 10, 100, 11, 101, 0, 9}, {term.Div, 0, all, 0, all, 0, all}, {term.Div, all, all, 2, all, 1, 1<<31 - 1}, {term.Div, 20, 20, 3, 3, 6, 6}, {term.Div, 21, 23, 3, 3, 7, 7}, {term.Div, 0, 6, 7, 7, 0, 0},
		{term.Mod, 10, 100, 3, 7, 0, 6}, {term.Mod, 1, 5, 3, 7, 0, 5}, {term.Mod, 1, 6, 3, 7, 0, 6}, {term.Mod, 1, 7, 3, 7, 0, 6}, {term.Mod, 10, 100, 0, 7, 0, 6}, {term.Mod, 10, 100, 0, 0, 0, 0}, {term.Mod, 10, 100, 1, 1, 0, 0}, {term.Mod, 10, 100, 0, 1, 0, 0}, {term.Mod, 0, all, 0, all, 0, all - 1}, {term.Mod, 0, all - 2, 0, all, 0, all - 2}, {term.Mod, 0, all, 1 << 31, 1 << 31, 0, 1<<31 - 1}, {term.Mod, 3, 3, 100, 100, 0, 3}, {term.Mod, 0, 0, 5, 5, 0, 0},
	} {
		low, high := []uint32{x.a, x.c}, []uint32{x.b, x.d}
		ranges(t, of(int(x.op), word(0), word(1)), low, high, x.from, x.to)
		ranges(t, of(int(x.op), word(1), word(0)), []uint32{x.c, x.a}, []uint32{x.d, x.b}, x.from, x.to)
		if x.a == x.b && x.c == x.d {
			ranges(t, of(int(x.op), num(x.a), num(x.c)), nil, nil, x.from, x.to)
		}
	}
	for _, op := range ones {
		for _, a := range edges {
			ranges(t, of(op, num(a)), nil, nil, 0, all)
			ranges(t, of(op, word(0)), []uint32{a}, []uint32{a}, 0, all)
		}
	}
}

// modelSpan is what Range must tell, by numbers without bounds.
func modelSpan(t term.Term, low, high []uint32) (*big.Int, *big.Int) {
	n := big.NewInt
	switch {
	case t.Op == term.Const:
		return n(int64(t.N)), n(int64(t.N))
	case t.Op == term.Var:
		from, to := n(0), n(most)
		if int(t.N) < len(low) {
			from = n(int64(low[t.N]))
		}
		if int(t.N) < len(high) {
			to = n(int64(high[t.N]))
		}
		return from, to
	case len(t.List) < 2:
		return n(0), n(most)
	}
	a, b := modelSpan(t.List[0], low, high)
	c, d := modelSpan(t.List[1], low, high)
	from, to := n(0), n(most)
	switch t.Op {
	case term.And:
		to = least(b, d)
	case term.Eq, term.Lt:
		to = n(1)
	case term.Shr:
		to = b
	case term.Add:
		from, to = new(big.Int).Add(a, c), new(big.Int).Add(b, d)
	case term.Sub:
		from, to = new(big.Int).Sub(a, d), new(big.Int).Sub(b, c)
	case term.Mul:
		from, to = new(big.Int).Mul(a, c), new(big.Int).Mul(b, d)
	case term.Div:
		from, to = new(big.Int).Quo(a, orOne(d)), new(big.Int).Quo(b, orOne(c))
	case term.Mod:
		to = least(b, new(big.Int).Sub(orOne(d), n(1)))
	}
	if from.Sign() < 0 || to.Cmp(n(most)) > 0 {
		return n(0), n(most)
	}
	return from, to
}

func least(a, b *big.Int) *big.Int {
	if a.Cmp(b) < 0 {
		return a
	}
	return b
}

func orOne(a *big.Int) *big.Int {
	if a.Sign() == 0 {
		return big.NewInt(1)
	}
	return a
}

// asModelSpan holds a term's span against the model's.
func asModelSpan(t *testing.T, x term.Term, low, high []uint32) {
	t.Helper()
	from, to := modelSpan(x, low, high)
	ranges(t, x, low, high, uint32(from.Uint64()), uint32(to.Uint64()))
}

// P11.3: each operator of all edges, against the model.
func TestEdgeRanges(t *testing.T) {
	ends := []uint32{0, 1, 2, 3, 7, 32, 1<<16 - 1, 1 << 16, 1<<16 + 1, 1<<31 - 1, 1 << 31, most - 1, most}
	for i, a := range ends {
		for _, b := range ends[i:] {
			for j, c := range ends {
				for _, d := range ends[j:] {
					for _, op := range twos {
						asModelSpan(t, of(op, word(0), word(1)), []uint32{a, c}, []uint32{b, d})
					}
				}
			}
		}
	}
}

// P11.3: spans of all kinds of terms, against the model, with lists of all lengths; and each value that there is with words of these is within.
func TestRangeModel(t *testing.T) {
	d := dice(22)
	narrow := 0
	for range 10000 {
		x := d.term(d.below(7))
		low, high := sorted(d.words(4), d.words(4))
		// Near one another, so that spans don't all become those of all words.
		for i := range low {
			if d.below(2) == 0 {
				high[i] = low[i] + min(most-low[i], uint32(d.below(100)))
			}
		}
		short, brief := low[:d.below(5)], high[:d.below(5)]
		asModelSpan(t, x, short, brief)
		from, to := term.Range(x, short, brief)
		if from > to {
			t.Errorf("%s: %d to %d", dump(x), from, to)
		}
		if to-from < most {
			narrow++
		}
		for range 8 {
			within(t, x, short, brief, d.between(short, brief))
		}
		within(t, x, short, brief, short)
		within(t, x, low, high, high)
	}
	if narrow < 4000 {
		t.Errorf("%d are narrow", narrow)
	}
}

// within holds that a term's value, if it has one, is in its span.
func within(t *testing.T, x term.Term, low, high, words []uint32) {
	t.Helper()
	from, to := term.Range(x, low, high)
	if v, ok := term.Eval(x, words); ok && (v < from || v > to) {
		t.Errorf("%s with %v: %d isn't from %d to %d", dump(x), words, v, from, to)
	}
}

// between are words from low's to high's; those that are beyond one of the lists are any above, or below the other's.
func (d *dice) between(low, high []uint32) []uint32 {
	var l []uint32
	for i := range 6 {
		from, to := uint32(0), uint32(most)
		if i < len(low) {
			from = low[i]
		}
		if i < len(high) {
			to = high[i]
		}
		switch w := d.word(); {
		case w >= from && w <= to:
			l = append(l, w)
		case d.below(3) == 0:
			l = append(l, from)
		case d.below(2) == 0:
			l = append(l, to)
		default:
			l = append(l, from+uint32(uint64(w)%(uint64(to-from)+1)))
		}
	}
	return l
}

// P11.3: all values of terms of small words are within their spans; and of these four operators of two words, that don't wrap round there, both ends are values.
func TestRangeSmall(t *testing.T) {
	for a := range uint32(5) {
		for b := a; b < 5; b++ {
			for c := range uint32(5) {
				for e := c; e < 5; e++ {
					for _, op := range twos {
						x := of(op, word(0), word(1))
						l := valuesOf(t, x, a, b, c, e)
						from, to := term.Range(x, []uint32{a, c}, []uint32{b, e})
						exact := op == term.Add || op == term.Mul || op == term.Sub && a >= e || op == term.Div && c > 0
						if exact && (slices.Min(l) != from || slices.Max(l) != to) {
							t.Errorf("%s of %d to %d, %d to %d: %d to %d", dump(x), a, b, c, e, from, to)
						}
					}
				}
			}
		}
	}
}

// valuesOf are all that a term has with words from a to b, and from c to d, each of them held against its span.
func valuesOf(t *testing.T, x term.Term, a, b, c, d uint32) []uint32 {
	t.Helper()
	var l []uint32
	for i := a; i <= b; i++ {
		for j := c; j <= d; j++ {
			within(t, x, []uint32{a, c}, []uint32{b, d}, []uint32{i, j})
			if v, ok := term.Eval(x, []uint32{i, j}); ok {
				l = append(l, v)
			}
		}
	}
	return l
}

// P11.3: a span hangs on those of the list, not on what the terms in it are: two of the same variable are two words.
func TestRangeOfSpans(t *testing.T) {
	x := word(0)
	low, high := []uint32{3}, []uint32{9}
	ranges(t, of(term.Sub, x, x), low, high, 0, most)
	ranges(t, of(term.Add, x, x), low, high, 6, 18)
	ranges(t, of(term.Mul, x, x), low, high, 9, 81)
	ranges(t, of(term.Div, x, x), low, high, 0, 3)
	ranges(t, of(term.Mod, x, x), low, high, 0, 8)
	ranges(t, of(term.Eq, x, x), low, high, 0, 1)
	ranges(t, of(term.Not, num(most)), low, high, 0, most)
	ranges(t, of(term.Add, of(term.Not, num(most)), num(1)), low, high, 0, most)
	ranges(t, of(term.Add, of(term.Mul, x, num(2)), num(1)), low, high, 7, 19)
	ranges(t, of(term.Sub, of(term.Add, x, num(5)), of(term.Lt, x, num(4))), low, high, 7, 14)
	ranges(t, of(term.Div, of(term.Mod, x, num(8)), of(term.And, x, num(4))), low, high, 0, 7)
	ranges(t, of(term.Mod, of(term.Or, x, x), of(term.Shr, x, num(1))), low, high, 0, 8)
	ranges(t, of(term.Shr, of(term.Mul, of(term.Add, x, num(1)), of(term.Add, x, num(1))), num(3)), low, high, 0, 100)
	ranges(t, of(term.Div, num(7), num(0)), low, high, 7, 7)
	ranges(t, of(term.Mod, num(7), num(0)), low, high, 0, 0)
}

// P11.3: terms of MaxNodes nodes have their spans.
func TestRangeGreat(t *testing.T) {
	ranges(t, chain(api.MaxNodes-1, word(0)), nil, nil, 0, most)
	ranges(t, spine(term.Add, 8191, false, word(0), word(1)), []uint32{1, 2}, []uint32{3, 4}, 1+2*8191, 3+4*8191)
	ranges(t, spine(term.Add, 8191, true, word(0), word(1)), []uint32{1, 2}, []uint32{3, 4}, 1+2*8191, 3+4*8191)
	ranges(t, bush(term.Add, 13, word(2)), []uint32{0, 0, 1}, []uint32{0, 0, 5}, 1<<13, 5<<13)
}
