package parse

import (
	"remontoire/api"
	"remontoire/lex"
)

// reader reads tokens one by one. It stays at the first one that is wrong: behind that nothing is taken,
// so that whatever is still asked of it ends, and what it tells then is dropped.
type reader struct {
	left  []lex.Token
	nodes int
	wrong api.Errno
}

// next is the token that is to be taken; the end never is, so that there always is one.
func (r *reader) next() lex.Token { return r.left[0] }

// refuse tells what is wrong with the next token, if nothing was wrong so far.
func (r *reader) refuse(e api.Errno) {
	if r.wrong == api.OK {
		r.wrong = e
	}
}

// must takes the next token, if it may follow.
func (r *reader) must(follow bool) lex.Token {
	t := r.next()
	if !follow {
		r.refuse(api.ErrSyntax)
	}
	if r.wrong == api.OK {
		r.left = r.left[1:]
	}
	return t
}

// need takes a word or a sign that has to follow.
func (r *reader) need(text string) { r.must(r.next().Text == text) }

// follows tells whether a word or a sign is next. Nothing follows what is wrong: what hangs on it ends there.
func (r *reader) follows(text string) bool { return r.wrong == api.OK && r.next().Text == text }

// take takes a word or a sign, if it follows, and tells whether it does.
func (r *reader) take(text string) bool {
	if !r.follows(text) {
		return false
	}
	r.need(text)
	return true
}

func (r *reader) name() string {
	t := r.next()
	return r.must(t.Kind == lex.Name && !Word(t.Text)).Text
}

func (r *reader) number() uint32 { return r.must(r.next().Kind == lex.Number).Num }

// size is a number in brackets.
func (r *reader) size() uint32 {
	r.need("[")
	n := r.number()
	r.need("]")
	return n
}

// node is a new node, that begins with the next token, whatever that is.
func (r *reader) node(kind int) Node {
	r.nodes++
	if r.nodes > api.MaxNodes {
		r.refuse(api.ErrCount)
	}
	return Node{Kind: kind, At: r.next().At}
}

// within refuses what is too deep. It has to be asked ahead of node, for ErrDeep is told ahead of ErrCount.
func (r *reader) within(depth int) {
	if depth > api.MaxNest {
		r.refuse(api.ErrDeep)
	}
}

// list takes what is within parentheses, parted by commas.
func (r *reader) list(each func() Node) []Node {
	r.need("(")
	if r.take(")") {
		return nil
	}
	l := []Node{each()}
	for r.take(",") {
		l = append(l, each())
	}
	r.need(")")
	return l
}
