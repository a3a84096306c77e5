package lex_test

import (
	"slices"
	"testing"

	"remontoire/api"
	"remontoire/lex"
)

// allSigns are the signs, in the chapter's order.
var allSigns = []string{
	"->", "..", "==", "<<<", "<<", ">>", "<", "(", ")", "{", "}", "[", "]",
	",", ";", ":", "=", "+", "-", "*", "/", "%", "&", "|", "^", "~",
}

func name(at int, text string) lex.Token { return lex.Token{Kind: lex.Name, At: at, Text: text} }

func sign(at int, text string) lex.Token { return lex.Token{Kind: lex.Sign, At: at, Text: text} }

func number(at int, text string, num uint32) lex.Token {
	return lex.Token{Kind: lex.Number, At: at, Text: text, Num: num}
}

func end(at int) lex.Token { return lex.Token{Kind: lex.End, At: at} }

func tokens(l ...lex.Token) []lex.Token { return l }

// read is Tokens, where it must answer OK, and 0 beside it.
func read(t *testing.T, src string) []lex.Token {
	t.Helper()
	l, e, at := lex.Tokens([]byte(src))
	if e != api.OK || at != 0 {
		t.Errorf("%.80q: %d at %d", src, e, at)
	}
	return l
}

// reads holds a source's tokens against those that must come.
func reads(t *testing.T, src string, want ...lex.Token) {
	t.Helper()
	if l := read(t, src); !slices.Equal(l, want) {
		t.Errorf("%.80q: %.800v, not %.800v", src, l, want)
	}
}

// refused holds the error of Tokens, and its offset, against those that must come, and that nothing is beside them.
func refused(t *testing.T, src string, want api.Errno, where int) {
	t.Helper()
	l, e, at := lex.Tokens([]byte(src))
	if e != want || at != where || len(l) != 0 {
		t.Errorf("%.80q: %d tokens, %d at %d, not %d at %d", src, len(l), e, at, want, where)
	}
}

// texts are the Texts of tokens.
func texts(l []lex.Token) []string {
	var all []string
	for _, x := range l {
		all = append(all, x.Text)
	}
	return all
}

// placeless are tokens whose At is 0.
func placeless(l []lex.Token) []lex.Token {
	all := slices.Clone(l)
	for i := range all {
		all[i].At = 0
	}
	return all
}

// dice tells numbers that look as if they were any, always the same ones.
type dice uint64

func (d *dice) below(n int) int {
	*d = *d*6364136223846793005 + 1442695040888963407
	return int(uint64(*d) >> 33 % uint64(n))
}
