package parse_test

import (
	"slices"
	"strings"

	"remontoire/api"
	"remontoire/lex"
)

// grammar is the chapter's, for a machine with a stack: of a symbol, by the token that is next (* is any other one), what stands for it.
// # counts a node, ! asks for the depth; what has a ' behind it is one deeper. ANY is the next token, NEVER none.
const grammar = `
program    END  :
program    *    : # function program
function   fn   : fn NAME ( parameters ) result block'
function   *    : export fn NAME ( parameters ) result block'
parameters )    :
parameters *    : parameter parameters2
parameters2 ,   : , parameter parameters2
parameters2 *   :
parameter  *    : # NAME : kind
kind       pub u32 u64 : ANY
kind       *    : # [ NUMBER ]
result     ->   : -> type
result     *    :
type       u32  : u32
type       *    : u64
block      *    : ! # { statements'
statements }    : }
statements *    : # statement statements
statement  let var : ANY NAME = e0 ;
statement  arr  : arr NAME [ NUMBER ] ;
statement  if   : if e0 block otherwise
statement  for  : for NAME in e0 .. e0 block
statement  return : return e0 ;
statement  *    : NAME named ;
otherwise  else : else block
otherwise  *    :
named      [    : [ e0' ] = e0
named      (    : ( arguments'
named      *    : = e0
arguments  )    : )
arguments  *    : e0 arguments2
arguments2 ,    : , e0 arguments2
arguments2 *    : )
e0         *    : e1 t0
t0         |    : # ANY e1 t0
t0         *    :
e1         *    : e2 t1
t1         ^    : # ANY e2 t1
t1         *    :
e2         *    : e3 t2
t2         &    : # ANY e3 t2
t2         *    :
e3         *    : e4 t3
t3         == < : # ANY e4
t3         *    :
e4         *    : e5 t4
t4         << >> <<< : # ANY e5 t4
t4         *    :
e5         *    : e6 t5
t5         + -  : # ANY e6 t5
t5         *    :
e6         *    : operand t6
t6         * / % : # ANY operand t6
t6         *    :
operand    *    : ! operand2
operand2   (    : ( e0' )
operand2   ~ -  : # ANY operand'
operand2   NUMBER : # NUMBER
operand2   NAME : # NAME behind
operand2   *    : # NEVER
behind     [    : [ e0' ]
behind     (    : ( arguments'
behind     *    :
`

type rule struct{ first, body []string }

// rules are the grammar's, by their symbols; the one for any other token stands last.
func rules() map[string][]rule {
	m := map[string][]rule{}
	for line := range strings.Lines(grammar) {
		head, body, _ := strings.Cut(line, " : ")
		head, _ = strings.CutSuffix(strings.TrimSpace(head), " :")
		if f := strings.Fields(head); len(f) > 0 {
			m[f[0]] = append(m[f[0]], rule{f[1:], strings.Fields(body)})
		}
	}
	return m
}

var theRules = rules()

// class is what a token is called in the grammar.
func class(t lex.Token) string {
	switch {
	case t.Kind == lex.End:
		return "END"
	case t.Kind == lex.Number:
		return "NUMBER"
	case t.Kind == lex.Name && !slices.Contains(words, t.Text):
		return "NAME"
	}
	return t.Text
}

type waiting struct {
	symbol string
	depth  int
}

// model tells a source's first error and its offset, by a machine with a stack.
func model(src string) (api.Errno, int) {
	tokens, e, at := lex.Tokens([]byte(src))
	if e != api.OK {
		return e, at
	}
	nodes := 1
	stack := []waiting{{"program", 0}}
	for len(stack) > 0 {
		top, t := stack[len(stack)-1], tokens[0]
		stack = stack[:len(stack)-1]
		switch {
		case top.symbol == "#":
			if nodes++; nodes > api.MaxNodes {
				return api.ErrCount, t.At
			}
		case top.symbol == "!":
			if top.depth > api.MaxNest {
				return api.ErrDeep, t.At
			}
		case theRules[top.symbol] != nil:
			stack = append(stack, body(top, class(t))...)
		case top.symbol == "ANY" || top.symbol == class(t):
			tokens = tokens[1:]
		default:
			return api.ErrSyntax, t.At
		}
	}
	return api.OK, 0
}

// body is what stands for a symbol, the last one first.
func body(top waiting, next string) []waiting {
	l := theRules[top.symbol]
	i := slices.IndexFunc(l, func(r rule) bool { return slices.Contains(r.first, next) })
	if i < 0 {
		i = len(l) - 1
	}
	var b []waiting
	for _, x := range slices.Backward(l[i].body) {
		symbol, deeper := strings.CutSuffix(x, "'")
		depth := top.depth
		if deeper {
			depth++
		}
		b = append(b, waiting{symbol, depth})
	}
	return b
}
