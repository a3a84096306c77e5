package lex_test

import (
	"bytes"
	"slices"
	"testing"

	"remontoire/lex"
)

// What is handed in is neither changed nor kept, its spare room neither; what is told shares nothing.
func TestMemory(t *testing.T) {
	all := []byte("fn f_1(a: [16]) -> u32 { // remark\n\treturn a[0]<<0x1f..; } spare 1 +")
	src := all[:len(all)-len(" spare 1 +")]
	kept := bytes.Clone(all)
	one, _, _ := lex.Tokens(src)
	other, _, _ := lex.Tokens(src)
	want := slices.Clone(one)
	if !bytes.Equal(all, kept) {
		t.Error("the source is changed")
	}
	clear(all)
	if !slices.Equal(one, want) || lex.Show(one) != "fn f_1 ( a : [ 16 ] ) -> u32 { return a [ 0 ] << 0x1f .. ; } " {
		t.Errorf("the tokens are changed with the source: %v", one)
	}
	clear(one[:cap(one)])
	if !slices.Equal(other, want) {
		t.Errorf("the tokens are changed with others: %v", other)
	}
	again, _, _ := lex.Tokens(kept[:len(src)])
	if !slices.Equal(again, want) {
		t.Errorf("a later call tells other tokens: %v", again)
	}
}

// Show neither changes nor keeps the tokens.
func TestShowMemory(t *testing.T) {
	all := tokens(name(0, "x"), sign(1, "+"), number(2, "1", 1), end(3), name(4, "spare"))
	l := all[:4]
	kept := slices.Clone(all)
	shown := lex.Show(l)
	if !slices.Equal(all, kept) {
		t.Error("the tokens are changed")
	}
	clear(all)
	if shown != "x + 1 " || lex.Show(kept[:4]) != shown {
		t.Errorf("%q", shown)
	}
}
