package term_test

import (
	"fmt"
	"math/big"
	"slices"
	"strconv"
	"strings"
	"testing"

	"remontoire/term"
)

// most is the greatest word.
const most = 1<<32 - 1

// The operators that need so many terms.
var (
	none = []int{term.Const, term.Var}
	ones = []int{term.Not, term.Neg}
	twos = []int{term.Or, term.Xor, term.And, term.Eq, term.Lt, term.Shl, term.Shr, term.Rol, term.Add, term.Sub, term.Mul, term.Div, term.Mod}
)

var names = []string{"?", "Const", "Var", "Not", "Neg", "Or", "Xor", "And", "Eq", "Lt", "Shl", "Shr", "Rol", "Add", "Sub", "Mul", "Div", "Mod"}

// edges are words around which operators turn.
var edges = []uint32{0, 1, 2, 3, 5, 7, 10, 31, 32, 33, 63, 64, 100, 1<<16 - 1, 1 << 16, 1<<16 + 1, 0x12345678, 1<<31 - 1, 1 << 31, 1<<31 + 1, 0xDEADBEEF, most - 1, most}

func num(n uint32) term.Term { return term.Term{Op: term.Const, N: n} }

func word(n uint32) term.Term { return term.Term{Op: term.Var, N: n} }

func of(op int, l ...term.Term) term.Term { return term.Term{Op: op, List: l} }

// dump is all of a term as a text: of each node its operator, its N, if it isn't 0, or a number or a word, and its list.
func dump(t term.Term) string {
	var b strings.Builder
	dumpTo(&b, t)
	return b.String()
}

func dumpTo(b *strings.Builder, t term.Term) {
	name := "?" + strconv.Itoa(t.Op)
	if t.Op > 0 && t.Op < len(names) {
		name = names[t.Op]
	}
	b.WriteString(name)
	if t.N != 0 || t.Op == term.Const || t.Op == term.Var {
		fmt.Fprintf(b, " %d", t.N)
	}
	if len(t.List) == 0 {
		return
	}
	b.WriteByte('(')
	for i, x := range t.List {
		if i > 0 {
			b.WriteString(", ")
		}
		dumpTo(b, x)
	}
	b.WriteByte(')')
}

// is holds a term against the one that must come, node by node.
func is(t *testing.T, what string, got, want term.Term) {
	t.Helper()
	if a, b := dump(got), dump(want); a != b {
		t.Errorf("%.300s: %.300s, not %.300s", what, a, b)
	}
}

// evaluates holds a term's value against the one that must come.
func evaluates(t *testing.T, x term.Term, words []uint32, want uint32) {
	t.Helper()
	if got, ok := term.Eval(x, words); got != want || !ok {
		t.Errorf("%.300s with %v: %d %t, not %d", dump(x), words, got, ok, want)
	}
}

// traps holds that a term has no value, and nought beside that.
func traps(t *testing.T, x term.Term, words []uint32) {
	t.Helper()
	if got, ok := term.Eval(x, words); got != 0 || ok {
		t.Errorf("%.300s with %v: %d %t, and it doesn't trap", dump(x), words, got, ok)
	}
}

// ranges holds a term's span against the one that must come.
func ranges(t *testing.T, x term.Term, low, high []uint32, from, to uint32) {
	t.Helper()
	if a, b := term.Range(x, low, high); a != from || b != to {
		t.Errorf("%.300s of %v to %v: %d to %d, not %d to %d", dump(x), low, high, a, b, from, to)
	}
}

// model is a term's value by numbers without bounds; nil, if it traps.
func model(t term.Term, words []uint32) *big.Int {
	var l []*big.Int
	for _, x := range t.List {
		v := model(x, words)
		if v == nil {
			return nil
		}
		l = append(l, v)
	}
	switch {
	case t.Op == term.Const:
		return big.NewInt(int64(t.N))
	case t.Op == term.Var && int(t.N) < len(words):
		return big.NewInt(int64(words[t.N]))
	case t.Op == term.Var:
		return new(big.Int)
	case slices.Contains(ones, t.Op):
		return modulo(one(t.Op, l[0]))
	}
	v := two(t.Op, l[0], l[1])
	if v == nil {
		return nil
	}
	return modulo(v)
}

func modulo(v *big.Int) *big.Int { return v.Mod(v, big.NewInt(1<<32)) }

func one(op int, x *big.Int) *big.Int {
	if op == term.Not {
		return new(big.Int).Sub(big.NewInt(most), x)
	}
	return new(big.Int).Neg(x)
}

func two(op int, x, y *big.Int) *big.Int {
	v := new(big.Int)
	by := uint(y.Uint64() % 32)
	switch op {
	case term.Or:
		return v.Or(x, y)
	case term.Xor:
		return v.Xor(x, y)
	case term.And:
		return v.And(x, y)
	case term.Eq:
		return big.NewInt(int64(1 - min(1, x.CmpAbs(y)*x.CmpAbs(y))))
	case term.Lt:
		return big.NewInt(int64(max(0, y.Cmp(x))))
	case term.Shl:
		return v.Lsh(x, by)
	case term.Shr:
		return v.Rsh(x, by)
	case term.Rol:
		v.Lsh(x, by)
		return v.Or(v, new(big.Int).Rsh(x, 32-by))
	case term.Add:
		return v.Add(x, y)
	case term.Sub:
		return v.Sub(x, y)
	case term.Mul:
		return v.Mul(x, y)
	}
	if y.Sign() == 0 {
		return nil
	}
	quotient, rest := new(big.Int).DivMod(x, y, v)
	if op == term.Div {
		return quotient
	}
	return rest
}

// asModel holds a term's value, or its trap, against the model's; it tells whether there is a value.
func asModel(t *testing.T, x term.Term, words []uint32) bool {
	t.Helper()
	want := model(x, words)
	if want == nil {
		traps(t, x, words)
		return false
	}
	evaluates(t, x, words, uint32(want.Uint64()))
	return true
}

// dice tells numbers that look as if they were any, always the same ones.
type dice uint64

func (d *dice) below(n int) int {
	*d = *d*6364136223846793005 + 1442695040888963407
	return int(uint64(*d) >> 33 % uint64(n))
}

func (d *dice) word() uint32 {
	switch d.below(4) {
	case 0:
		return edges[d.below(len(edges))]
	case 1:
		return uint32(d.below(8))
	case 2:
		return uint32(d.below(1 << 17))
	}
	return uint32(d.below(1<<16))<<16 | uint32(d.below(1<<16))
}

func (d *dice) words(n int) []uint32 {
	var l []uint32
	for range n {
		l = append(l, d.word())
	}
	return l
}

// term is a right term of at most so many levels below its first node, of variables up to 3 and of numbers.
func (d *dice) term(levels int) term.Term {
	ops := slices.Concat(none, twos, ones, twos)
	if levels == 0 {
		ops = none
	}
	t := term.Term{Op: ops[d.below(len(ops))]}
	switch {
	case t.Op == term.Const:
		t.N = d.word()
	case t.Op == term.Var:
		t.N = uint32(d.below(4))
	case slices.Contains(ones, t.Op):
		t.List = []term.Term{d.term(levels - 1)}
	default:
		t.List = []term.Term{d.term(levels - 1), d.term(levels - 1)}
	}
	return t
}

// closed is a right term without variables.
func (d *dice) closed(levels int) term.Term { return filled(d.term(levels), d.words(4)) }

// filled is a term with numbers in the places of its variables, in new memory.
func filled(t term.Term, words []uint32) term.Term {
	if t.Op == term.Var {
		return num(words[t.N])
	}
	t.List = slices.Clone(t.List)
	for i := range t.List {
		t.List[i] = filled(t.List[i], words)
	}
	return t
}

// all are a term's nodes.
func all(t term.Term) []term.Term {
	l := []term.Term{t}
	for _, x := range t.List {
		l = append(l, all(x)...)
	}
	return l
}

// hasWords tells whether a term has a variable.
func hasWords(t term.Term) bool {
	return slices.ContainsFunc(all(t), func(x term.Term) bool { return x.Op == term.Var })
}

// chain is a term with so many Nots, each in the one ahead, and another one within.
func chain(n int, within term.Term) term.Term {
	for range n {
		within = of(term.Not, within)
	}
	return within
}

// spine is a term with so many Ops of two, each the first or the second one of the one ahead.
func spine(op, n int, second bool, within, beside term.Term) term.Term {
	for range n {
		if second {
			within = of(op, beside, within)
		} else {
			within = of(op, within, beside)
		}
	}
	return within
}

// bush is a term in which each node has one list, that is shared, down to so many levels: 2^(levels+1) - 1 nodes.
func bush(op, levels int, leaf term.Term) term.Term {
	for range levels {
		leaf = of(op, leaf, leaf)
	}
	return leaf
}
