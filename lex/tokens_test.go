package lex_test

import (
	"slices"
	"strings"
	"testing"

	"remontoire/api"
	"remontoire/lex"
)

// P9.1: the chapter's example, and the kinds by their numbers.
func TestExample(t *testing.T) {
	reads(t, "x<<<0x1f//y", name(0, "x"), sign(1, "<<<"), number(4, "0x1f", 31), end(11))
	if lex.Name != 1 || lex.Number != 2 || lex.Sign != 3 || lex.End != 4 {
		t.Error(lex.Name, lex.Number, lex.Sign, lex.End)
	}
}

// P9.1: a whole function, with the At, Text and Num of each token.
func TestFunction(t *testing.T) {
	reads(t, "export fn f_1(a: [16]) -> u32 {\r\n\treturn a[0x0f] % 7; // }\n}\n",
		name(0, "export"), name(7, "fn"), name(10, "f_1"), sign(13, "("), name(14, "a"), sign(15, ":"),
		sign(17, "["), number(18, "16", 16), sign(20, "]"), sign(21, ")"), sign(23, "->"), name(26, "u32"), sign(30, "{"),
		name(34, "return"), name(41, "a"), sign(42, "["), number(43, "0x0f", 15), sign(47, "]"), sign(49, "%"), number(51, "7", 7), sign(52, ";"),
		sign(59, "}"), end(61))
}

// P9.1: names of each kind of letters; a name's Num is 0.
func TestNames(t *testing.T) {
	for _, x := range []string{
		"a", "z", "m", "_", "__", "_a", "a_", "_0", "_9", "a0", "z9", "a_0", "abcdefghijklmnopqrstuvwxyz", "_0123456789", "x1f", "ox1", "u32",
		"fn", "export", "let", "var", "arr", "if", "else", "for", "in", "return", "pub", "u64",
	} {
		reads(t, x, name(0, x), end(len(x)))
		reads(t, " "+x+" ", name(1, x), end(len(x)+2))
		reads(t, "("+x+")", sign(0, "("), name(1, x), sign(len(x)+1, ")"), end(len(x)+2))
	}
}

// P9.1: numbers, decimal and hexadecimal, with what they say.
func TestNumbers(t *testing.T) {
	for text, num := range map[string]uint32{
		"0": 0, "1": 1, "9": 9, "10": 10, "16": 16, "1234567890": 1234567890, "2147483648": 1 << 31, "4294967294": 1<<32 - 2,
		"0x0": 0, "0x1": 1, "0x9": 9, "0xa": 10, "0xf": 15, "0x10": 16, "0xabcdef": 0xABCDEF, "0x1234567": 0x1234567, "0x89": 0x89,
		"0x80000000": 1 << 31, "0xfffffffe": 1<<32 - 2, "0xdeadbeef": 0xDEADBEEF,
	} {
		reads(t, text, number(0, text, num), end(len(text)))
		reads(t, "-"+text+";", sign(0, "-"), number(1, text, num), sign(len(text)+1, ";"), end(len(text)+2))
	}
}

// P9.1: each sign alone, and between names with nothing between.
func TestSigns(t *testing.T) {
	for _, x := range allSigns {
		reads(t, x, sign(0, x), end(len(x)))
		reads(t, "a"+x+"b", name(0, "a"), sign(1, x), name(1+len(x), "b"), end(2+len(x)))
		reads(t, "1"+x+"2", number(0, "1", 1), sign(1, x), number(1+len(x), "2", 2), end(2+len(x)))
		reads(t, x+" "+x, sign(0, x), sign(1+len(x), x), end(1+2*len(x)))
	}
}

// P9.1: of signs that begin with one another, the longest one is taken.
func TestLongest(t *testing.T) {
	for src, want := range map[string]string{
		"<": "<", "<<": "<<", "<<<": "<<<", "<<<<": "<<< <", "<<<<<": "<<< <<", "<<<<<<": "<<< <<<", "<<<<<<<": "<<< <<< <",
		"< <<": "< <<", "<< <": "<< <", "<->": "< ->", "<=": "< =", "<==": "< ==", "<<=": "<< =", "<<<==": "<<< ==", "<>>": "< >>",
		"-": "-", "->": "->", "--": "- -", "-->": "- ->", "->-": "-> -", "->>>": "-> >>", "->->": "-> ->", "-=": "- =", "->=": "-> =",
		">>": ">>", ">>>>": ">> >>", ">>=": ">> =", ">>->": ">> ->",
		"=": "=", "==": "==", "===": "== =", "====": "== ==", "=->": "= ->", "=-": "= -", "==-": "== -",
		"..": "..", "....": ".. ..", "..-": ".. -", "0..9": "0 .. 9", "a..b": "a .. b", "x[1]..y": "x [ 1 ] .. y",
		"()": "( )", "[]": "[ ]", "{}": "{ }", ")->u32{": ") -> u32 {", "a&&b": "a & & b", "a||b": "a | | b", "~~a": "~ ~ a", "^^": "^ ^",
		"**": "* *", "/*": "/ *", "*/": "* /", "++": "+ +", "::": ": :", ";;": "; ;", ",,": ", ,", "%%": "% %",
	} {
		l := read(t, src)
		if got := strings.Join(texts(l[:max(len(l)-1, 0)]), " "); got != want {
			t.Errorf("%q: %s, not %s", src, got, want)
		}
	}
}

// P9.1: what parts tokens: nothing, where there need be nothing, blanks, tabs, carriage returns, line ends, remarks.
func TestParted(t *testing.T) {
	for _, gap := range []string{
		" ", "\t", "\r", "\n", "\r\n", "  ", " \t\r\n ", "\n\n\n", "//\n", "// \n", "//x\n", "// a b\n\t", "\n//\n//\n", " //1\n //2\r\n", "///\n", "////\n",
		"//\r\n", "//\r!\n", "//\t\"'.A\x00\x80\xff\n", "// // //\n", "//* */\n", "//" + strings.Repeat("abc", 30) + "\n", "//4294967296 0x\n",
	} {
		g := len(gap)
		reads(t, "a"+gap+"b", name(0, "a"), name(1+g, "b"), end(2+g))
		reads(t, "1"+gap+"2", number(0, "1", 1), number(1+g, "2", 2), end(2+g))
		reads(t, "<"+gap+"<", sign(0, "<"), sign(1+g, "<"), end(2+g))
		reads(t, gap+"x"+gap, name(g, "x"), end(1+2*g))
		reads(t, gap+"a1"+gap+gap+"0x1"+gap+"->"+gap, name(g, "a1"), number(2+3*g, "0x1", 1), sign(5+4*g, "->"), end(7+5*g))
	}
	reads(t, "a1(2)b", name(0, "a1"), sign(2, "("), number(3, "2", 2), sign(4, ")"), name(5, "b"), end(6))
	reads(t, "1+x", number(0, "1", 1), sign(1, "+"), name(2, "x"), end(3))
	reads(t, "x1 1", name(0, "x1"), number(3, "1", 1), end(4))
}

// P9.1: Letter and Digit of every byte.
func TestLetterDigit(t *testing.T) {
	for i := range 256 {
		c := byte(i)
		if got, want := lex.Letter(c), strings.IndexByte("abcdefghijklmnopqrstuvwxyz_", c) >= 0; got != want {
			t.Errorf("Letter(%#x): %t", c, got)
		}
		if got, want := lex.Digit(c), strings.IndexByte("0123456789", c) >= 0; got != want {
			t.Errorf("Digit(%#x): %t", c, got)
		}
	}
}

// P9.1: every byte alone, and behind a name: only a letter and a digit go on with it.
func TestEveryByte(t *testing.T) {
	for i := range 256 {
		c := string([]byte{byte(i)})
		switch {
		case strings.Contains(" \t\r\n", c):
			reads(t, c, end(1))
			reads(t, "x"+c, name(0, "x"), end(2))
		case lex.Letter(byte(i)):
			reads(t, c, name(0, c), end(1))
			reads(t, "x"+c, name(0, "x"+c), end(2))
		case lex.Digit(byte(i)):
			reads(t, c, number(0, c, uint32(i-'0')), end(1))
			reads(t, "x"+c, name(0, "x"+c), end(2))
		case slices.Contains(allSigns, c):
			reads(t, c, sign(0, c), end(1))
			reads(t, "x"+c, name(0, "x"), sign(1, c), end(2))
		default:
			refused(t, c, api.ErrChar, 0)
			refused(t, "x"+c, api.ErrChar, 1)
			refused(t, "7"+c+"7", api.ErrChar, 1)
			reads(t, "//"+c, end(3))
		}
	}
}
