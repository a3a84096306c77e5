package term_test

import (
	"slices"
	"testing"

	"remontoire/api"
	"remontoire/term"
)

// P11.2: terms that are put in the places of variables, written out.
func TestPuts(t *testing.T) {
	x, y, z := word(0), word(1), word(2)
	sum := of(term.Add, word(0), num(1))
	for _, c := range []struct {
		t    term.Term
		l    []term.Term
		want term.Term
	}{
		{num(5), []term.Term{num(7)}, num(5)}, {num(0), []term.Term{num(7)}, num(0)}, {num(0), nil, num(0)},
		{x, []term.Term{num(7)}, num(7)}, {x, []term.Term{x}, x}, {x, []term.Term{y, x}, y}, {y, []term.Term{y, x}, x}, {x, nil, x}, {y, []term.Term{num(7)}, y}, {z, []term.Term{x, y}, z}, {word(255), []term.Term{x}, word(255)},
		{sum, []term.Term{num(2)}, of(term.Add, num(2), num(1))}, {sum, []term.Term{sum}, of(term.Add, sum, num(1))}, {sum, []term.Term{}, sum},
		{of(term.Sub, x, y), []term.Term{y, x}, of(term.Sub, y, x)}, {of(term.Sub, x, y), []term.Term{y}, of(term.Sub, y, y)}, {of(term.Sub, x, y), []term.Term{z, sum, num(9)}, of(term.Sub, z, sum)}, {of(term.Mul, of(term.Not, x), of(term.Neg, x)), []term.Term{sum}, of(term.Mul, of(term.Not, sum), of(term.Neg, sum))},
		{of(term.Div, num(1), x), []term.Term{num(0)}, of(term.Div, num(1), num(0))}, {of(term.Mod, y, x), []term.Term{of(term.Div, x, num(0)), num(3)}, of(term.Mod, num(3), of(term.Div, x, num(0)))}, {of(term.Eq, num(1), num(1)), []term.Term{num(3)}, of(term.Eq, num(1), num(1))},
		{of(term.And, of(term.Or, z, y), of(term.Xor, x, word(3))), []term.Term{num(10), num(11), num(12)}, of(term.And, of(term.Or, num(12), num(11)), of(term.Xor, num(10), word(3)))},
	} {
		is(t, dump(c.t)+" with "+dump(of(0, c.l...)), term.Put(c.t, c.l), c.want)
	}
}

// P11.2: each variable has its own place in the list.
func TestPutPlaces(t *testing.T) {
	var l []term.Term
	for n := range uint32(300) {
		l = append(l, of(term.Neg, num(n+1000)))
	}
	for _, size := range []int{0, 1, 2, 100, 255, 256, 300} {
		for n := range uint32(256) {
			want := word(n)
			if int(n) < size {
				want = l[n]
			}
			is(t, "a variable", term.Put(word(n), l[:size]), want)
			is(t, "within", term.Put(of(term.Lt, word(n), of(term.Not, word(n))), l[:size]), of(term.Lt, want, of(term.Not, want)))
		}
	}
}

// P11.2: a term in which others are put is right, has the value of it with theirs as words, and traps as it does with these; nothing of it is folded.
func TestPutValues(t *testing.T) {
	d := dice(11)
	met := map[bool]int{}
	for range 5000 {
		x := d.term(d.below(6))
		var l []term.Term
		for range d.below(6) {
			l = append(l, d.term(d.below(4)))
		}
		put := term.Put(x, l)
		if want := 0; !put.Right() {
			t.Errorf("%s isn't right", dump(put))
		} else if want = putCount(x, l); term.Count(put) != want {
			t.Errorf("%s with %s: %d nodes, not %d", dump(x), dump(of(0, l...)), term.Count(put), want)
		}
		words := d.words(d.below(5))
		inner, good := values(l, words)
		if !good {
			continue
		}
		// Variables beyond the list stay, and have the words that stand at their own places.
		for n := len(l); n < 4; n++ {
			v, _ := term.Eval(word(uint32(n)), words)
			inner = append(inner, v)
		}
		want, ok := term.Eval(x, inner)
		met[ok]++
		if ok {
			evaluates(t, put, words, want)
		} else {
			traps(t, put, words)
		}
	}
	if met[true] < 500 || met[false] < 200 {
		t.Error(met)
	}
}

// values are those of terms, and whether none of them traps.
func values(l []term.Term, words []uint32) ([]uint32, bool) {
	var all []uint32
	for _, x := range l {
		v, ok := term.Eval(x, words)
		if !ok {
			return nil, false
		}
		all = append(all, v)
	}
	return all, true
}

// putCount is how many nodes there are, where each variable counts as the term in its place.
func putCount(t term.Term, l []term.Term) int {
	n := 0
	for _, x := range all(t) {
		if x.Op == term.Var && int(x.N) < len(l) {
			n += len(all(l[x.N]))
		} else {
			n++
		}
	}
	return n
}

// P11.2: great terms in one another: what comes may be too great to be right, and is told all the same.
func TestPutGreat(t *testing.T) {
	deep := chain(api.MaxNodes-1, word(0))
	if n := term.Count(term.Put(deep, []term.Term{deep})); n != 2*api.MaxNodes-1 {
		t.Errorf("%d nodes", n)
	}
	wide := spine(term.Add, 8191, true, word(0), word(1))
	put := term.Put(wide, []term.Term{deep, deep})
	if put.Right() || put.Op != term.Add {
		t.Errorf("%s", names[put.Op])
	}
	if put = term.Put(wide, []term.Term{num(3), word(0)}); !put.Right() {
		t.Error("it isn't right")
	}
	evaluates(t, put, []uint32{2}, 3+8191*2)
}

// P11.2: terms that are folded, written out.
func TestFolds(t *testing.T) {
	x := word(0)
	bad, worse := of(term.Div, num(1), num(0)), of(term.Mod, num(1), num(0))
	for _, c := range []struct{ t, want term.Term }{
		{num(5), num(5)}, {num(0), num(0)}, {x, x}, {word(255), word(255)}, {of(term.Not, num(0)), num(most)}, {of(term.Neg, num(1)), num(most)}, {of(term.Not, x), of(term.Not, x)}, {of(term.Neg, x), of(term.Neg, x)},
		{of(term.Mul, of(term.Add, num(2), num(3)), x), of(term.Mul, num(5), x)}, {of(term.Mul, x, of(term.Add, num(2), num(3))), of(term.Mul, x, num(5))}, {of(term.Mul, of(term.Add, num(2), num(3)), num(4)), num(20)}, {of(term.Sub, of(term.Add, x, num(3)), num(3)), of(term.Sub, of(term.Add, x, num(3)), num(3))},
		{bad, bad}, {worse, worse}, {of(term.Not, bad), of(term.Not, bad)}, {of(term.Mul, num(0), bad), of(term.Mul, num(0), bad)}, {of(term.Mul, bad, num(0)), of(term.Mul, bad, num(0))}, {of(term.Div, bad, num(2)), of(term.Div, bad, num(2))}, {of(term.Div, num(2), bad), of(term.Div, num(2), bad)}, {of(term.Mod, num(2), worse), of(term.Mod, num(2), worse)},
		{of(term.Div, of(term.Add, num(1), num(2)), of(term.Xor, num(3), num(3))), of(term.Div, num(3), num(0))}, {of(term.Mod, of(term.Add, num(1), num(2)), of(term.Xor, num(3), num(3))), of(term.Mod, num(3), num(0))}, {of(term.Div, x, num(0)), of(term.Div, x, num(0))}, {of(term.Mod, x, of(term.Lt, num(1), num(1))), of(term.Mod, x, num(0))},
		{of(term.Div, num(7), num(2)), num(3)}, {of(term.Mod, num(7), num(2)), num(1)}, {of(term.Div, num(0), num(1)), num(0)}, {of(term.Div, num(1), of(term.Div, num(1), num(2))), of(term.Div, num(1), num(0))}, {of(term.Mod, num(1), of(term.Mod, num(2), num(2))), of(term.Mod, num(1), num(0))},
		{of(term.Add, bad, of(term.Add, num(1), num(2))), of(term.Add, bad, num(3))}, {of(term.Add, of(term.Add, num(1), num(2)), bad), of(term.Add, num(3), bad)}, {of(term.Add, of(term.Add, num(1), num(2)), of(term.Shl, num(1), num(33))), num(5)},
	} {
		is(t, dump(c.t), term.Fold(c.t), c.want)
	}
}

// P11.2: nothing is made of a variable, though its value were the same whatever its word is.
func TestFoldKeeps(t *testing.T) {
	for n := range uint32(256) {
		x := word(n)
		is(t, "a variable", term.Fold(x), x)
		is(t, "an empty list", term.Fold(term.Term{Op: term.Var, N: n, List: []term.Term{}}), x)
	}
	for _, op := range twos {
		for _, n := range edges {
			for _, x := range []term.Term{of(op, word(0), word(0)), of(op, word(0), num(n)), of(op, num(n), word(3)), of(op, of(op, word(0), num(n)), num(n)), of(op, num(n), of(op, num(n), word(1))), of(term.Not, of(term.Not, of(op, word(1), num(n))))} {
				is(t, dump(x), term.Fold(x), x)
			}
		}
	}
}

// P11.2: each operator of all edges is folded to its value, alone and within others.
func TestFoldEdges(t *testing.T) {
	for _, a := range edges {
		for _, op := range ones {
			folds(t, of(op, num(a)))
			folds(t, of(term.Add, word(0), of(op, num(a))))
		}
		for _, b := range edges {
			for _, op := range twos {
				x := of(op, num(a), num(b))
				folds(t, x)
				folds(t, of(term.Neg, x))
				folds(t, of(op, x, word(0)))
				folds(t, of(op, word(0), x))
				folds(t, of(op, x, x))
			}
		}
	}
}

// folded is what Fold must tell: of each term within, that has no variable and doesn't trap, its value.
func folded(t term.Term) term.Term {
	if v := model(t, nil); v != nil && !hasWords(t) {
		return num(uint32(v.Uint64()))
	}
	t.List = slices.Clone(t.List)
	for i := range t.List {
		t.List[i] = folded(t.List[i])
	}
	return t
}

// folds holds what Fold tells against what it must, and that it is right and has no more nodes.
func folds(t *testing.T, x term.Term) term.Term {
	t.Helper()
	f := term.Fold(x)
	is(t, dump(x), f, folded(x))
	if !f.Right() || term.Count(f) > term.Count(x) {
		t.Errorf("%s: %s", dump(x), dump(f))
	}
	return f
}

// P11.2: folded terms of all kinds: their values and traps, for any words, are those of the terms; folded again they are the same.
func TestFoldModel(t *testing.T) {
	d := dice(12)
	shorter := 0
	for range 10000 {
		x := d.term(d.below(8))
		f := folds(t, x)
		if term.Count(f) < term.Count(x) {
			shorter++
		}
		if !term.Same(term.Fold(f), f) {
			t.Errorf("%s, and folded again %s", dump(f), dump(term.Fold(f)))
		}
		for range 4 {
			words := d.words(d.below(6))
			a, ok := term.Eval(x, words)
			b, good := term.Eval(f, words)
			if a != b || ok != good {
				t.Errorf("%s with %v: %d %t, and folded %d %t", dump(x), words, a, ok, b, good)
			}
		}
	}
	if shorter < 2000 {
		t.Errorf("%d are shorter", shorter)
	}
}

// P11.2: a term without variables is a Const of its value, if it doesn't trap; else it is none.
func TestFoldClosed(t *testing.T) {
	d := dice(13)
	met := map[bool]int{}
	for range 5000 {
		x := d.closed(d.below(7))
		f := folds(t, x)
		v, ok := term.Eval(x, nil)
		met[ok]++
		if ok {
			is(t, dump(x), f, num(v))
		} else if f.Op == term.Const {
			t.Errorf("%s traps: %s", dump(x), dump(f))
		}
	}
	if met[true] < 1000 || met[false] < 300 {
		t.Error(met)
	}
}

// P11.2: terms of MaxNodes nodes are folded as others are.
func TestFoldGreat(t *testing.T) {
	is(t, "a chain", term.Fold(chain(api.MaxNodes-1, num(5))), num(most-5))
	is(t, "a spine", term.Fold(spine(term.Add, 8191, false, num(5), num(3))), num(5+3*8191))
	is(t, "a spine", term.Fold(spine(term.Add, 8191, true, num(5), num(3))), num(5+3*8191))
	is(t, "a bush", term.Fold(bush(term.Add, 13, num(3))), num(3<<13))
	for _, x := range []term.Term{chain(api.MaxNodes-1, word(5)), bush(term.Add, 13, word(3)), spine(term.Add, 8191, true, word(5), num(3)), spine(term.Add, 8191, true, of(term.Div, num(1), num(0)), num(3))} {
		if !term.Same(term.Fold(x), x) {
			t.Errorf("%.300s", dump(term.Fold(x)))
		}
	}
}
