package parse

import (
	"strconv"

	"remontoire/lex"
)

// shown is a text that grows. There are no more blanks in it than it needs, for what is shorter than MaxSource can be read again.
type shown struct {
	text []byte
}

func (s *shown) put(tokens ...string) {
	for _, t := range tokens {
		if s.runsOn(t) {
			s.text = append(s.text, ' ')
		}
		s.text = append(s.text, t...)
	}
}

// runsOn tells whether a token would be read as one with that ahead of it. Of signs none would:
// behind one that stands ahead of an operand there is a name, a number or a parenthesis.
func (s *shown) runsOn(token string) bool {
	return len(s.text) > 0 && token != "" && inWord(s.text[len(s.text)-1]) && inWord(token[0])
}

func inWord(c byte) bool { return lex.Letter(c) || lex.Digit(c) }

func (s *shown) node(n Node) {
	switch n.Kind {
	case Program:
		s.nodes(n.List)
	case Fn:
		s.function(n)
	case Param:
		s.parameter(n)
	case Block:
		s.put("{")
		s.nodes(n.List)
		s.put("}")
	case Num, Ref, Index, Call, Un, Bin:
		s.operand(n)
	default:
		s.statement(n)
	}
}

func (s *shown) nodes(l []Node) {
	for _, n := range l {
		s.node(n)
	}
}

// part is a node of another's list, if it is there: in a node that Parse didn't tell it need not be.
func (s *shown) part(n Node, i int) {
	if i < len(n.List) {
		s.node(n.List[i])
	}
}

// list is what stands within parentheses.
func (s *shown) list(l []Node) {
	s.put("(")
	for i, n := range l {
		if i > 0 {
			s.put(",")
		}
		s.node(n)
	}
	s.put(")")
}

func (s *shown) number(n Node) { s.put(strconv.FormatUint(uint64(n.Num), 10)) }

func (s *shown) size(n Node) {
	s.put("[")
	s.number(n)
	s.put("]")
}

func (s *shown) function(n Node) {
	if n.Num&exported != 0 {
		s.put("export")
	}
	params := max(len(n.List)-1, 0)
	s.put("fn", n.Text)
	s.list(n.List[:params])
	switch {
	case n.Num&tellsU32 != 0:
		s.put("->", "u32")
	case n.Num&tellsU64 != 0:
		s.put("->", "u64")
	}
	s.part(n, params)
}

func (s *shown) parameter(n Node) {
	s.put(n.Text, ":")
	switch n.Num {
	case ofPub:
		s.put("pub")
	case ofU32:
		s.put("u32")
	case ofU64:
		s.put("u64")
	default:
		for _, x := range n.List {
			s.size(x)
		}
	}
}

func (s *shown) statement(n Node) {
	switch n.Kind {
	case Let:
		s.put("let")
		s.given(n)
	case Var:
		s.put("var")
		s.given(n)
	case Arr:
		s.put("arr", n.Text)
		s.size(n)
	case Set:
		s.given(n)
	case Put:
		s.put(n.Text, "[")
		s.part(n, 0)
		s.put("]", "=")
		s.part(n, 1)
	case Do:
		s.put(n.Text)
		s.list(n.List)
	case Return:
		s.put("return")
		s.part(n, 0)
	default:
		s.branched(n)
		return
	}
	s.put(";")
}

func (s *shown) given(n Node) {
	s.put(n.Text, "=")
	s.part(n, 0)
}

// branched is a statement that ends in a block.
func (s *shown) branched(n Node) {
	switch n.Kind {
	case If:
		s.put("if")
		s.part(n, 0)
		s.part(n, 1)
		if len(n.List) > 2 {
			s.put("else")
			s.part(n, 2)
		}
	case For:
		s.put("for", n.Text, "in")
		s.part(n, 0)
		s.put("..")
		s.part(n, 1)
		s.part(n, 2)
	}
}

func (s *shown) operand(n Node) {
	switch n.Kind {
	case Num:
		s.number(n)
	case Ref:
		s.put(n.Text)
	case Index:
		s.put(n.Text, "[")
		s.part(n, 0)
		s.put("]")
	case Call:
		s.put(n.Text)
		s.list(n.List)
	case Un:
		s.put("(", n.Text)
		s.part(n, 0)
		s.put(")")
	case Bin:
		s.put("(")
		s.part(n, 0)
		s.put(n.Text)
		s.part(n, 1)
		s.put(")")
	}
}
