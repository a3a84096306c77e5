package lex_test

import (
	"slices"
	"strings"
	"testing"

	"remontoire/api"
	"remontoire/lex"
)

// P9.2: Show of no tokens, of the end, of each kind alone, and of several.
func TestShow(t *testing.T) {
	for want, l := range map[string][]lex.Token{
		"":             nil,
		"x ":           tokens(name(0, "x")),
		"0x1f ":        tokens(number(0, "0x1f", 31)),
		"007 ":         tokens(number(9, "007", 7)),
		"<<< ":         tokens(sign(7, "<<<")),
		"x + ":         tokens(name(5, "x"), sign(6, "+"), end(7)),
		"x <<< 0x1f ":  tokens(name(0, "x"), sign(1, "<<<"), number(4, "0x1f", 31), end(11)),
		"a b 1 2 - - ": tokens(name(0, "a"), name(0, "b"), number(0, "1", 1), number(0, "2", 2), sign(0, "-"), sign(0, "-"), end(0)),
	} {
		if got := lex.Show(l); got != want {
			t.Errorf("%v: %q, not %q", l, got, want)
		}
	}
	for _, l := range [][]lex.Token{{}, tokens(end(0)), tokens(end(65536)), tokens(end(1), end(2))} {
		if got := lex.Show(l); got != "" {
			t.Errorf("%v: %q", l, got)
		}
	}
}

// P9.2: it is the Texts that are shown, whatever else the tokens are.
func TestShowAny(t *testing.T) {
	for want, l := range map[string][]lex.Token{
		"a! ":  {{Kind: lex.Number, At: -1, Text: "a!", Num: 5}},
		"b c ": {{Text: "b"}, {Kind: 99, Text: "c"}},
		"  ":   {{}, {Kind: -4}},
		"xd e": {{Kind: lex.End, Text: "x"}, {Kind: lex.Name, Text: "d"}, {Kind: lex.End, Text: "e"}},
		"\xff": {{Kind: lex.End, Text: "\xff"}},
	} {
		if got := lex.Show(l); got != want {
			t.Errorf("%v: %q, not %q", l, got, want)
		}
	}
}

// P9.2: what is shown and read again is the same, but for At.
func TestShowAgain(t *testing.T) {
	for _, src := range []string{
		"", " ", "//", "x", "0", "x<<<0x1f//y", "fn f(){}", "a//b\nc\t0x00ff..007\r\n->==<<<", "a/ /b", "/", "- >>", "< <<", "-->", "====", "....",
		strings.Join(allSigns, "\n"), "_ __ 0 00 0x0 4294967295 0xffffffff", strings.Repeat("a", api.MaxName) + "/1",
	} {
		again(t, src)
	}
}

// again shows what is read of a source, reads that again and holds the one against the other.
func again(t *testing.T, src string) {
	t.Helper()
	l := read(t, src)
	shown := lex.Show(l)
	if !slices.Equal(placeless(read(t, shown)), placeless(l)) {
		t.Errorf("%.80q shown and read again: %.80q", src, shown)
	}
	if got := lex.Show(read(t, shown)); got != shown {
		t.Errorf("%.80q shown, read and shown again: %.80q", shown, got)
	}
}

// P9.2: a list that is very long is shown whole.
func TestShowLong(t *testing.T) {
	l := slices.Repeat(tokens(name(0, "ab"), sign(0, "<<<"), end(0)), 200000)
	if got := lex.Show(l); got != strings.Repeat("ab <<< ", 200000) {
		t.Errorf("%d bytes: %.40q..", len(got), got)
	}
}
