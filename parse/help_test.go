package parse_test

import (
	"fmt"
	"slices"
	"strconv"
	"strings"
	"testing"

	"remontoire/api"
	"remontoire/parse"
)

// words are those that are no names.
var words = []string{"fn", "export", "let", "var", "arr", "if", "else", "for", "in", "return", "pub", "u32", "u64"}

// ladder are the signs between two operands, level by level, the loosest first.
var ladder = [][]string{{"|"}, {"^"}, {"&"}, {"==", "<"}, {"<<", ">>", "<<<"}, {"+", "-"}, {"*", "/", "%"}}

const comparing = 3

func binSigns() []string { return slices.Concat(ladder...) }

func levelOf(sign string) int {
	return slices.IndexFunc(ladder, func(l []string) bool { return slices.Contains(l, sign) })
}

var kinds = []string{"?", "Program", "Fn", "Param", "Block", "Let", "Var", "Arr", "Set", "Put", "Do", "If", "For", "Return", "Num", "Ref", "Index", "Call", "Un", "Bin"}

// dump is all of a tree as a text: of each node its Kind and At, its Text, if it has one, its Num behind a #, if it isn't 0, and its List.
func dump(n parse.Node) string {
	s := "?" + strconv.Itoa(n.Kind)
	if n.Kind > 0 && n.Kind < len(kinds) {
		s = kinds[n.Kind]
	}
	s += "@" + strconv.Itoa(n.At)
	if n.Text != "" {
		s += " " + n.Text
	}
	if n.Num != 0 {
		s += fmt.Sprintf(" #%d", n.Num)
	}
	var l []string
	for _, x := range n.List {
		l = append(l, dump(x))
	}
	if len(l) > 0 {
		s += "(" + strings.Join(l, ", ") + ")"
	}
	return s
}

// parsed is Parse, where it must answer OK, and 0 beside it.
func parsed(t *testing.T, src string) parse.Node {
	t.Helper()
	n, e, at := parse.Parse([]byte(src))
	if e != api.OK || at != 0 {
		t.Errorf("%.100q: %d at %d", src, e, at)
	}
	return n
}

// reads holds a source's tree against the one that must come.
func reads(t *testing.T, src, want string) {
	t.Helper()
	if got := dump(parsed(t, src)); got != want {
		t.Errorf("%.100q:\n%.2000s, not\n%.2000s", src, got, want)
	}
}

// inside holds the statements of a block that begins at 6 against those that must come.
func inside(t *testing.T, body, want string) {
	t.Helper()
	if want != "" {
		want = "(" + want + ")"
	}
	reads(t, "fn f(){"+body+"}", "Program@0(Fn@0 f(Block@6"+want+"))")
}

// refused holds the error of Parse, and its offset, against those that must come, and that nothing is beside them.
func refused(t *testing.T, src string, want api.Errno, where int) {
	t.Helper()
	n, e, at := parse.Parse([]byte(src))
	if e != want || at != where || !isZero(n) {
		t.Errorf("%.100q (%d bytes): %d at %d, not %d at %d; beside it %.200s", src, len(src), e, at, want, where, dump(n))
	}
}

// refusedInside is refused, of what stands in a block; the offset is that in the block.
func refusedInside(t *testing.T, body string, want api.Errno, where int) {
	t.Helper()
	refused(t, "fn f(){"+body, want, 7+where)
}

func isZero(n parse.Node) bool {
	return n.Kind == 0 && n.At == 0 && n.Text == "" && n.Num == 0 && len(n.List) == 0
}

// again shows a tree, reads that again and holds the one against the other, offsets aside; and holds their texts against each other.
func again(t *testing.T, n parse.Node) string {
	t.Helper()
	s := parse.Show(n)
	m := parsed(t, s)
	if !parse.Same(n, m) || placeless(n) != placeless(m) {
		t.Errorf("%.300q, read again:\n%.1000s, not\n%.1000s", s, placeless(m), placeless(n))
	}
	if shown := parse.Show(m); shown != s {
		t.Errorf("%.300q shown, read and shown again: %.300q", s, shown)
	}
	return s
}

// placeless is dump without the offsets.
func placeless(n parse.Node) string { return dump(moved(n, func(int) int { return 0 })) }

// moved is a tree with other offsets, in new memory.
func moved(n parse.Node, to func(int) int) parse.Node {
	n.At = to(n.At)
	n.List = slices.Clone(n.List)
	for i := range n.List {
		n.List[i] = moved(n.List[i], to)
	}
	return n
}

// all are a tree's nodes.
func all(n parse.Node) []parse.Node {
	l := []parse.Node{n}
	for _, x := range n.List {
		l = append(l, all(x)...)
	}
	return l
}

// filled is a source with just so many nodes, the Program's too: at least 6.
func filled(nodes int) string {
	un := ""
	if nodes%2 == 0 {
		un = "~"
	}
	return "fn a(){x=" + un + "1" + strings.Repeat("+1", (nodes-5)/2) + ";}"
}

// dice tells numbers that look as if they were any, always the same ones.
type dice uint64

func (d *dice) below(n int) int {
	*d = *d*6364136223846793005 + 1442695040888963407
	return int(uint64(*d) >> 33 % uint64(n))
}
