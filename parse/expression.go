package parse

import (
	"remontoire/api"
	"remontoire/lex"
)

// The levels of signs that are named, of all from loosest to tightest.
const (
	loosest  = 1
	compared = 4
	tightest = 7
)

// levelOf is the level of a sign that stands between two operands; of any other text it is 0.
func levelOf(sign string) int {
	switch sign {
	case "|":
		return loosest
	case "^":
		return 2
	case "&":
		return 3
	case "==", "<":
		return compared
	case "<<", ">>", "<<<":
		return 5
	case "+", "-":
		return 6
	case "*", "/", "%":
		return tightest
	}
	return 0
}

func (r *reader) expression(depth int) Node { return r.level(loosest, depth) }

// level is an expression of no signs looser than a level's.
func (r *reader) level(level, depth int) Node {
	if level > tightest {
		return r.operand(depth)
	}
	n := r.level(level+1, depth)
	for r.wrong == api.OK && levelOf(r.next().Text) == level {
		n = r.joined(n, level, depth)
		if level == compared {
			break
		}
	}
	return n
}

// joined is an expression with the next sign, and what stands behind that.
func (r *reader) joined(left Node, level, depth int) Node {
	n := r.node(Bin)
	n.Text = r.must(true).Text
	n.List = []Node{left, r.level(level+1, depth)}
	return n
}

func (r *reader) operand(depth int) Node {
	r.within(depth)
	if r.take("(") {
		n := r.expression(depth + 1)
		r.need(")")
		return n
	}
	n := r.node(0)
	switch t := r.next(); {
	case t.Kind == lex.Number:
		n.Kind, n.Num = Num, r.number()
	case r.take("~"), r.take("-"):
		n.Kind, n.Text, n.List = Un, t.Text, []Node{r.operand(depth + 1)}
	default:
		n.Text = r.name()
		n.Kind, n.List = r.called(depth)
	}
	return n
}

// called is what an operand's name is of, by what stands behind it, and its list.
func (r *reader) called(depth int) (int, []Node) {
	switch {
	case r.take("["):
		return Index, []Node{r.index(depth)}
	case r.follows("("):
		return Call, r.arguments(depth)
	}
	return Ref, nil
}

// index is what stands behind an opening bracket.
func (r *reader) index(depth int) Node {
	n := r.expression(depth + 1)
	r.need("]")
	return n
}

func (r *reader) arguments(depth int) []Node {
	return r.list(func() Node { return r.expression(depth + 1) })
}
