package term_test

import (
	"math"
	"slices"
	"testing"

	"remontoire/api"
	"remontoire/term"
)

// P11.1: the operators by their numbers.
func TestOperators(t *testing.T) {
	for i, op := range slices.Concat(none, ones, twos) {
		if op != i+1 {
			t.Errorf("%s is %d, not %d", names[i+1], op, i+1)
		}
	}
}

// P11.1: of each Op, and of what is none, with so many terms and each N.
func TestRightNodes(t *testing.T) {
	for op := -3; op <= 40; op++ {
		for n := range 5 {
			for _, N := range []uint32{0, 1, 2, 17, 254, 255, 256, 257, 1 << 16, 1 << 31, most} {
				x := term.Term{Op: op, N: N, List: slices.Repeat([]term.Term{num(1)}, n)}
				want := op == term.Const && n == 0 || op == term.Var && n == 0 && N <= 255 || slices.Contains(ones, op) && n == 1 && N == 0 || slices.Contains(twos, op) && n == 2 && N == 0
				if x.Right() != want {
					t.Errorf("%s: %t", dump(x), !want)
				}
			}
		}
	}
	for _, op := range []int{math.MinInt, math.MinInt32, -1, 18, 255, 256, 257, 1<<16 + 1, math.MaxInt32, math.MaxInt} {
		for n := range 4 {
			if x := of(op, slices.Repeat([]term.Term{num(0)}, n)...); x.Right() {
				t.Errorf("%s", dump(x))
			}
		}
	}
	if (term.Term{}).Right() {
		t.Error("a term with nothing set")
	}
}

// P11.1: every variable up to 255, and no other one.
func TestRightVariables(t *testing.T) {
	for n := range uint32(1000) {
		if word(n).Right() != (n <= 255) {
			t.Errorf("Var %d", n)
		}
		if !num(n).Right() {
			t.Errorf("Const %d", n)
		}
	}
}

// wrongs are terms that aren't right, though each one but the first might be one with another Op, N or List.
var wrongs = []term.Term{
	{}, {Op: -1}, {Op: 18}, {Op: 18, List: []term.Term{num(1), num(2)}}, {N: 1}, {List: []term.Term{num(1)}},
	word(256), word(most), {Op: term.Const, List: []term.Term{num(1)}}, {Op: term.Var, List: []term.Term{num(1)}}, {Op: term.Var, List: []term.Term{num(1), num(1)}},
	of(term.Not), of(term.Neg), of(term.Not, num(1), num(1)), of(term.Neg, word(1), num(1)), of(term.Add), of(term.Mod, num(1)), of(term.Or, num(1)), of(term.Sub, num(1), num(2), num(3)),
	{Op: term.Not, N: 1, List: []term.Term{num(1)}}, {Op: term.Mul, N: 1, List: []term.Term{num(1), num(2)}}, {Op: term.Mod, N: 255, List: []term.Term{num(1), num(2)}},
}

// P11.1: one that isn't right makes each one that has it wrong, wherever it stands.
func TestRightWithin(t *testing.T) {
	x, y := word(255), of(term.Add, num(7), word(0))
	for _, wrong := range wrongs {
		if wrong.Right() {
			t.Errorf("%s", dump(wrong))
		}
		for _, op := range ones {
			if a := of(op, wrong); a.Right() {
				t.Errorf("%s", dump(a))
			}
			if a := of(op, of(op, of(op, wrong))); a.Right() {
				t.Errorf("%s", dump(a))
			}
		}
		for _, op := range twos {
			for _, a := range []term.Term{of(op, wrong, x), of(op, x, wrong), of(op, wrong, wrong), of(op, of(op, y, wrong), y), of(op, of(op, wrong, y), y), of(op, y, of(op, y, wrong)), of(op, y, of(op, wrong, y))} {
				if a.Right() {
					t.Errorf("%s", dump(a))
				}
			}
			if a := of(op, of(op, y, x), of(op, x, y)); !a.Right() {
				t.Errorf("%s", dump(a))
			}
		}
		for _, a := range []term.Term{chain(1000, wrong), spine(term.Xor, 1000, true, wrong, x), spine(term.Lt, 1000, false, wrong, x), spine(term.Div, 1000, true, x, wrong)} {
			if a.Right() {
				t.Errorf("deep within: %s", dump(wrong))
			}
		}
	}
}

// P11.1: just MaxNodes nodes, and one more, of several kinds.
func TestRightNodesLimit(t *testing.T) {
	if api.MaxNodes != 16384 {
		t.Fatal(api.MaxNodes)
	}
	half := (api.MaxNodes - 1) / 2
	for _, x := range []struct {
		t     term.Term
		nodes int
	}{
		{chain(api.MaxNodes-2, num(1)), api.MaxNodes - 1}, {chain(api.MaxNodes-1, num(1)), api.MaxNodes}, {chain(api.MaxNodes, num(1)), api.MaxNodes + 1}, {chain(api.MaxNodes-1, word(0)), api.MaxNodes}, {chain(api.MaxNodes, word(0)), api.MaxNodes + 1},
		{spine(term.Add, half, false, num(1), num(2)), api.MaxNodes - 1}, {of(term.Neg, spine(term.Add, half, false, num(1), num(2))), api.MaxNodes}, {spine(term.Add, half, false, of(term.Neg, num(1)), num(2)), api.MaxNodes}, {spine(term.Add, half+1, false, num(1), num(2)), api.MaxNodes + 1},
		{spine(term.Mod, half, true, word(1), num(2)), api.MaxNodes - 1}, {of(term.Not, spine(term.Mod, half, true, word(1), num(2))), api.MaxNodes}, {spine(term.Mod, half, true, of(term.Neg, num(1)), num(2)), api.MaxNodes}, {spine(term.Mod, half+1, true, word(1), num(2)), api.MaxNodes + 1},
		{bush(term.Mul, 13, num(3)), api.MaxNodes - 1}, {of(term.Not, bush(term.Mul, 13, num(3))), api.MaxNodes}, {of(term.Not, of(term.Neg, bush(term.Mul, 13, word(3)))), api.MaxNodes + 1}, {bush(term.Or, 14, word(0)), 2*api.MaxNodes - 1},
		{of(term.Sub, chain(8190, num(0)), chain(8190, word(0))), api.MaxNodes - 1}, {of(term.Sub, chain(8191, num(0)), chain(8190, word(0))), api.MaxNodes}, {of(term.Sub, chain(8190, num(0)), chain(8191, word(0))), api.MaxNodes}, {of(term.Sub, chain(8191, num(0)), chain(8191, word(0))), api.MaxNodes + 1},
		{of(term.Sub, num(0), chain(api.MaxNodes-3, num(0))), api.MaxNodes}, {of(term.Sub, num(0), chain(api.MaxNodes-2, num(0))), api.MaxNodes + 1}, {of(term.Sub, chain(api.MaxNodes-2, num(0)), num(0)), api.MaxNodes + 1},
	} {
		if x.t.Right() != (x.nodes <= api.MaxNodes) {
			t.Errorf("%d nodes: %t", x.nodes, x.t.Right())
		}
		if x.nodes <= api.MaxNodes && term.Count(x.t) != x.nodes {
			t.Errorf("%d nodes, not %d", term.Count(x.t), x.nodes)
		}
	}
}

// P11.1: Right ends, however many nodes there are, and however deep they are; a term that is handed in is at most 100,000 deep.
func TestRightEnds(t *testing.T) {
	for _, x := range []term.Term{
		chain(99_999, num(1)), spine(term.Add, 99_999, false, num(1), num(2)), spine(term.Add, 99_999, true, num(1), num(2)), bush(term.Add, 28, num(1)), bush(term.Mul, 15, word(1)),
		of(term.Not, slices.Repeat([]term.Term{num(1)}, 1_000_000)...), of(term.Add, slices.Repeat([]term.Term{num(1)}, 1_000_000)...), of(0, slices.Repeat([]term.Term{num(1)}, 1_000_000)...),
	} {
		if x.Right() {
			t.Errorf("%s of %d", names[x.Op], len(x.List))
		}
	}
}

// Nil and empty lists are one.
func TestRightEmpty(t *testing.T) {
	for _, x := range []term.Term{{Op: term.Const, N: 7, List: []term.Term{}}, {Op: term.Var, N: 7, List: make([]term.Term, 0, 3)}} {
		if !x.Right() || !of(term.Not, x).Right() {
			t.Errorf("%s", dump(x))
		}
		if (term.Term{Op: term.Not, List: x.List}).Right() {
			t.Error("a Not of none")
		}
	}
}

// P11.1: Of and At are right, and have one node.
func TestOfAt(t *testing.T) {
	for _, n := range edges {
		is(t, "Of", term.Of(n), num(n))
		if !term.Of(n).Right() || term.Count(term.Of(n)) != 1 {
			t.Errorf("Of(%d)", n)
		}
		evaluates(t, term.Of(n), nil, n)
		evaluates(t, term.Of(n), []uint32{n + 1}, n)
	}
	for n := range 300 {
		is(t, "At", term.At(n), word(uint32(n)))
		if term.At(n).Right() != (n <= 255) || term.Count(term.At(n)) != 1 {
			t.Errorf("At(%d)", n)
		}
	}
	is(t, "At", term.At(most), word(most))
	if term.At(-1).Right() || term.At(math.MaxInt).Right() {
		t.Error("a variable that can't be is right")
	}
}

// P11.1: how many nodes there are.
func TestCount(t *testing.T) {
	for _, x := range []struct {
		t    term.Term
		want int
	}{
		{num(0), 1}, {word(0), 1}, {of(term.Not, num(1)), 2}, {of(term.Add, num(1), word(0)), 3}, {of(term.Add, of(term.Not, num(1)), word(0)), 4}, {of(term.Add, num(1), of(term.Neg, word(0))), 4},
		{of(term.Add, of(term.Mul, num(1), num(2)), of(term.Mul, num(1), num(2))), 7}, {chain(100, num(1)), 101}, {spine(term.Or, 100, true, num(1), num(1)), 201}, {spine(term.Or, 100, false, num(1), chain(2, num(1))), 401}, {bush(term.Xor, 5, num(1)), 63},
	} {
		if got := term.Count(x.t); got != x.want {
			t.Errorf("%s: %d, not %d", dump(x.t), got, x.want)
		}
	}
	d := dice(1)
	for range 2000 {
		x := d.term(d.below(7))
		if got, want := term.Count(x), len(all(x)); got != want || !x.Right() {
			t.Errorf("%s: %d, not %d", dump(x), got, want)
		}
	}
}

// P11.1: Same tells of two terms whether all in them is the same: Op, N and List, at each node.
func TestSame(t *testing.T) {
	var l []term.Term
	for _, op := range twos {
		l = append(l, of(op, num(1), num(2)), of(op, num(2), num(1)), of(op, num(1), num(1)), of(op, word(1), num(1)), of(op, num(1), word(1)), of(op, of(op, num(1), num(2)), num(3)), of(op, num(1), of(op, num(2), num(3))))
	}
	for _, op := range ones {
		l = append(l, of(op, num(1)), of(op, word(1)), of(op, of(op, num(1))), of(op, of(term.Not, of(term.Neg, num(2)))))
	}
	for _, n := range edges {
		l = append(l, num(n))
	}
	for n := range uint32(256) {
		l = append(l, word(n))
	}
	for i, a := range l {
		for j, b := range l {
			if term.Same(a, copied(b)) != (i == j) {
				t.Errorf("%s and %s: %t", dump(a), dump(b), i != j)
			}
		}
	}
}

// P11.1: Same of terms with one node that is another one, and of such as have the same value alone.
func TestSameButForOne(t *testing.T) {
	d := dice(2)
	for range 300 {
		x := d.term(6)
		if !term.Same(x, copied(x)) {
			t.Errorf("%s and itself", dump(x))
		}
		for i := range all(x) {
			for _, change := range []func(*term.Term){func(t *term.Term) { t.N ^= 1 }, func(t *term.Term) { t.Op = t.Op%17 + 1 }, func(t *term.Term) { t.List = append(t.List, num(0)) }} {
				y := changed(x, i, change)
				if term.Same(x, y) || term.Same(y, x) {
					t.Errorf("%s and %s", dump(x), dump(y))
				}
			}
		}
	}
	for _, p := range [][2]term.Term{{of(term.Add, num(1), word(0)), of(term.Add, word(0), num(1))}, {of(term.Add, num(1), num(2)), num(3)}, {of(term.Not, of(term.Not, word(0))), word(0)}, {of(term.Mul, word(0), num(0)), num(0)}} {
		if term.Same(p[0], p[1]) {
			t.Errorf("%s and %s", dump(p[0]), dump(p[1]))
		}
	}
}

// Nil and empty lists are one.
func TestSameEmpty(t *testing.T) {
	a, b := of(term.Not, word(1)), of(term.Not, term.Term{Op: term.Var, N: 1, List: make([]term.Term, 0, 2)})
	if !term.Same(a, b) || !term.Same(b, a) {
		t.Error("a list that is empty, and none")
	}
}

// copied is a term in new memory.
func copied(t term.Term) term.Term {
	t.List = slices.Clone(t.List)
	for i := range t.List {
		t.List[i] = copied(t.List[i])
	}
	return t
}

// changed is a term in new memory, of which one node is changed.
func changed(t term.Term, node int, change func(*term.Term)) term.Term {
	t = copied(t)
	seen := 0
	var walk func(*term.Term)
	walk = func(x *term.Term) {
		if seen++; seen == node+1 {
			change(x)
			return
		}
		for i := range x.List {
			walk(&x.List[i])
		}
	}
	walk(&t)
	return t
}
