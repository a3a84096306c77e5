package parse_test

import (
	"strings"
	"testing"

	"remontoire/lex"
	"remontoire/parse"
)

// maker makes trees as the dice fall, and writes a source of each, so that it knows all offsets.
type maker struct {
	d *dice
	b strings.Builder
}

// put writes a token, with or without blanks ahead of it, and tells its offset.
func (m *maker) put(text string) int {
	gaps := []string{"", "", "", " ", "  ", "\n", "\t\r\n", "//\n", " // x;}\n"}
	gap := gaps[m.d.below(len(gaps))]
	inWord := func(c byte) bool { return lex.Letter(c) || lex.Digit(c) }
	if s := m.b.String(); s != "" && inWord(s[len(s)-1]) && inWord((gap + text)[0]) || strings.HasSuffix(s, "/") && strings.HasPrefix(gap, "/") {
		gap = " " + gap
	}
	m.b.WriteString(gap)
	at := m.b.Len()
	m.b.WriteString(text)
	return at
}

func (m *maker) name() (string, int) {
	names := []string{"a", "b", "x", "y_1", "_", "select", "fns", "in_", "u3", "abcdefghijklmnopqrstuvwxyzabcdef"}
	s := names[m.d.below(len(names))]
	return s, m.put(s)
}

func (m *maker) number() (uint32, int) {
	numbers := []string{"0", "1", "007", "12", "0x0", "0xff", "4294967295", "0x00ffffffff", "1000000000"}
	values := []uint32{0, 1, 7, 12, 0, 255, 1<<32 - 1, 1<<32 - 1, 1000000000}
	i := m.d.below(len(numbers))
	return values[i], m.put(numbers[i])
}

func (m *maker) program() parse.Node {
	n := parse.Node{Kind: parse.Program}
	for range m.d.below(4) {
		n.List = append(n.List, m.function())
	}
	if len(n.List) > 0 {
		n.At = n.List[0].At
	}
	return n
}

func (m *maker) function() parse.Node {
	n := parse.Node{Kind: parse.Fn}
	if m.d.below(2) == 0 {
		n.Num, n.At = 1, m.put("export")
		m.put("fn")
	} else {
		n.At = m.put("fn")
	}
	n.Text, _ = m.name()
	m.put("(")
	for i := range m.d.below(4) {
		if i > 0 {
			m.put(",")
		}
		n.List = append(n.List, m.parameter())
	}
	m.put(")")
	if i := m.d.below(3); i > 0 {
		m.put("->")
		m.put([]string{"u32", "u64"}[i-1])
		n.Num += []uint32{2, 4}[i-1]
	}
	n.List = append(n.List, m.block(4))
	return n
}

func (m *maker) parameter() parse.Node {
	n := parse.Node{Kind: parse.Param, Num: uint32(m.d.below(4)) + 1}
	n.Text, n.At = m.name()
	m.put(":")
	if n.Num < 4 {
		m.put([]string{"pub", "u32", "u64"}[n.Num-1])
		return n
	}
	size := parse.Node{Kind: parse.Num, At: m.put("[")}
	size.Num, _ = m.number()
	m.put("]")
	n.List = []parse.Node{size}
	return n
}

func (m *maker) block(nest int) parse.Node {
	n := parse.Node{Kind: parse.Block, At: m.put("{")}
	for range m.d.below(4) {
		n.List = append(n.List, m.statement(nest))
	}
	m.put("}")
	return n
}

func (m *maker) statement(nest int) parse.Node {
	n := parse.Node{Kind: parse.Let + m.d.below(parse.Return-parse.Let+1)}
	if nest == 0 && (n.Kind == parse.If || n.Kind == parse.For) {
		n.Kind = parse.Do
	}
	if word := map[int]string{parse.Let: "let", parse.Var: "var", parse.Arr: "arr", parse.If: "if", parse.For: "for", parse.Return: "return"}[n.Kind]; word != "" {
		n.At = m.put(word)
	}
	switch n.Kind {
	case parse.Let, parse.Var, parse.Arr, parse.For:
		n.Text, _ = m.name()
	case parse.Set, parse.Put, parse.Do:
		n.Text, n.At = m.name()
	}
	return m.behind(n, nest)
}

// behind is a statement with what stands behind its word and its name.
func (m *maker) behind(n parse.Node, nest int) parse.Node {
	switch n.Kind {
	case parse.Let, parse.Var, parse.Set:
		m.put("=")
		n.List = []parse.Node{m.expr(0, 5)}
	case parse.Arr:
		m.put("[")
		n.Num, _ = m.number()
		m.put("]")
	case parse.Put:
		index := m.bracketed("[", "]")
		m.put("=")
		n.List = append(index, m.expr(0, 5))
	case parse.Do:
		n.List = m.arguments(4)
	case parse.Return:
		n.List = []parse.Node{m.expr(0, 5)}
	case parse.If:
		n.List = []parse.Node{m.expr(0, 5)}
		n.List = append(n.List, m.block(nest-1))
		if m.d.below(2) == 0 {
			m.put("else")
			n.List = append(n.List, m.block(nest-1))
		}
		return n
	case parse.For:
		m.put("in")
		n.List = []parse.Node{m.expr(0, 5)}
		m.put("..")
		n.List = append(n.List, m.expr(0, 5))
		n.List = append(n.List, m.block(nest-1))
		return n
	}
	m.put(";")
	return n
}

func (m *maker) bracketed(open, shut string) []parse.Node {
	m.put(open)
	n := m.expr(0, 3)
	m.put(shut)
	return []parse.Node{n}
}

func (m *maker) arguments(nest int) []parse.Node {
	m.put("(")
	var l []parse.Node
	for i := range m.d.below(4) {
		if i > 0 {
			m.put(",")
		}
		l = append(l, m.expr(0, nest))
	}
	m.put(")")
	return l
}

// expr is an expression that may stand where signs are at least of a level; a looser one is put in parentheses.
func (m *maker) expr(level, nest int) parse.Node {
	if nest <= 0 {
		return m.operand(0)
	}
	switch m.d.below(8) {
	case 0:
		m.put("(")
		n := m.expr(0, nest-1)
		m.put(")")
		return n
	case 1, 2, 3, 4:
		signs := binSigns()
		return m.joined(signs[m.d.below(len(signs))], level, nest)
	}
	return m.operand(nest)
}

func (m *maker) joined(sign string, level, nest int) parse.Node {
	own := levelOf(sign)
	left := own
	if own == comparing {
		left++
	}
	if own < level {
		m.put("(")
	}
	n := parse.Node{Kind: parse.Bin, Text: sign, List: []parse.Node{m.expr(left, nest-1)}}
	n.At = m.put(sign)
	n.List = append(n.List, m.expr(own+1, nest-1))
	if own < level {
		m.put(")")
	}
	return n
}

func (m *maker) operand(nest int) parse.Node {
	n := parse.Node{Kind: parse.Num + m.d.below(parse.Un-parse.Num+1)}
	if nest <= 0 {
		n.Kind = parse.Num + m.d.below(2)
	}
	switch n.Kind {
	case parse.Num:
		n.Num, n.At = m.number()
		return n
	case parse.Un:
		n.Text = []string{"~", "-"}[m.d.below(2)]
		n.At = m.put(n.Text)
		n.List = []parse.Node{m.under(nest - 1)}
		return n
	}
	n.Text, n.At = m.name()
	switch n.Kind {
	case parse.Index:
		n.List = m.bracketed("[", "]")
	case parse.Call:
		n.List = m.arguments(nest - 1)
	}
	return n
}

// under is an operand, or any expression in parentheses.
func (m *maker) under(nest int) parse.Node {
	if m.d.below(2) == 0 {
		return m.operand(nest)
	}
	return m.bracketed("(", ")")[0]
}

// P10.1, P10.2: trees as the dice fall, of which the source is known: they are read, counted, shown and read again.
func TestMade(t *testing.T) {
	d := dice(1)
	met := map[int]int{}
	for range 2000 {
		m := maker{d: &d}
		n := m.program()
		if d.below(2) == 0 {
			m.b.WriteString(" //")
		}
		src := m.b.String()
		if len(n.List) == 0 {
			n.At = len(src)
		}
		reads(t, src, dump(n))
		if got := parse.Count(n); got != len(all(n)) {
			t.Errorf("%q: %d nodes", src, got)
		}
		bare(t, n, again(t, n))
		for _, x := range all(n) {
			met[x.Kind]++
		}
		if t.Failed() {
			return
		}
	}
	for kind := parse.Program; kind <= parse.Bin; kind++ {
		if met[kind] < 500 {
			t.Errorf("%d of %s", met[kind], kinds[kind])
		}
	}
}

// bare holds how many parentheses a shown tree has against how many it must: a pair for each Bin and each Un, and those of functions and calls.
func bare(t *testing.T, n parse.Node, shown string) {
	t.Helper()
	pairs := 0
	for _, x := range all(n) {
		switch x.Kind {
		case parse.Bin, parse.Un, parse.Fn, parse.Do, parse.Call:
			pairs++
		}
	}
	if strings.Count(shown, "(") != pairs || strings.Count(shown, ")") != pairs {
		t.Errorf("%d pairs of parentheses must be in %q", pairs, shown)
	}
}
