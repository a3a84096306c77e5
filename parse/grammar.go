package parse

import (
	"remontoire/api"
	"remontoire/lex"
)

func (r *reader) program() Node {
	n := r.node(Program)
	for r.wrong == api.OK && r.next().Kind != lex.End {
		n.List = append(n.List, r.function())
	}
	return n
}

func (r *reader) function() Node {
	n := r.node(Fn)
	if r.take("export") {
		n.Num = exported
	}
	r.need("fn")
	n.Text = r.name()
	n.List = r.list(r.parameter)
	n.Num |= r.result()
	n.List = append(n.List, r.block(1))
	return n
}

// result is what is set in a function's Num for what it tells.
func (r *reader) result() uint32 {
	if !r.take("->") {
		return 0
	}
	if r.take("u32") {
		return tellsU32
	}
	r.need("u64")
	return tellsU64
}

func (r *reader) parameter() Node {
	n := r.node(Param)
	n.Text = r.name()
	r.need(":")
	switch {
	case r.take("pub"):
		n.Num = ofPub
	case r.take("u32"):
		n.Num = ofU32
	case r.take("u64"):
		n.Num = ofU64
	default:
		size := r.node(Num)
		size.Num = r.size()
		n.Num, n.List = ofArray, []Node{size}
	}
	return n
}

// block is never the first to be too deep: ahead of one within another stands an expression that is as deep.
func (r *reader) block(depth int) Node {
	n := r.node(Block)
	r.need("{")
	for r.wrong == api.OK && !r.take("}") {
		n.List = append(n.List, r.statement(depth+1))
	}
	return n
}

func (r *reader) statement(depth int) Node {
	n := r.node(0)
	switch {
	case r.take("let"):
		n.Kind, n.Text = Let, r.name()
		n.List = r.given(depth)
	case r.take("var"):
		n.Kind, n.Text = Var, r.name()
		n.List = r.given(depth)
	case r.take("arr"):
		n.Kind, n.Text, n.Num = Arr, r.name(), r.size()
	case r.take("return"):
		n.Kind, n.List = Return, []Node{r.expression(depth)}
	case r.take("if"):
		return r.choice(n, depth)
	case r.take("for"):
		return r.rounds(n, depth)
	default:
		n = r.named(n, depth)
	}
	r.need(";")
	return n
}

// given is what stands behind the name that is given it.
func (r *reader) given(depth int) []Node {
	r.need("=")
	return []Node{r.expression(depth)}
}

// choice is the rest of an if.
func (r *reader) choice(n Node, depth int) Node {
	n.Kind, n.List = If, []Node{r.expression(depth), r.block(depth)}
	if r.take("else") {
		n.List = append(n.List, r.block(depth))
	}
	return n
}

// rounds is the rest of a for.
func (r *reader) rounds(n Node, depth int) Node {
	n.Kind, n.Text = For, r.name()
	r.need("in")
	from := r.expression(depth)
	r.need("..")
	n.List = []Node{from, r.expression(depth), r.block(depth)}
	return n
}

// named is a statement that begins with a name.
func (r *reader) named(n Node, depth int) Node {
	n.Text = r.name()
	switch {
	case r.take("["):
		n.Kind, n.List = Put, append([]Node{r.index(depth)}, r.given(depth)...)
	case r.follows("("):
		n.Kind, n.List = Do, r.arguments(depth)
	default:
		n.Kind, n.List = Set, r.given(depth)
	}
	return n
}
