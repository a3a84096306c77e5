package lex_test

import (
	"strings"
	"testing"

	"remontoire/api"
)

// P9.1: bytes that begin no token, wherever a token would begin.
func TestWrongBytes(t *testing.T) {
	for _, c := range []string{
		"A", "F", "Z", "X", "\"", "'", "`", "!", "#", "$", "?", "@", "\\", "\x00", "\x01", "\v", "\f", "\x1f", "\x7f", "\x80", "\xa0", "\xff",
		"é", "\u00a0", "\ufeff", "\u2028", ".", ">", "!=", ".a", ".1", ". .", ">=", "> >",
	} {
		refused(t, c, api.ErrChar, 0)
		refused(t, " "+c, api.ErrChar, 1)
		refused(t, "\r\n"+c+"\n", api.ErrChar, 2)
		refused(t, "ab"+c, api.ErrChar, 2)
		refused(t, "12"+c+"12", api.ErrChar, 2)
		refused(t, "0xab"+c, api.ErrChar, 4)
		refused(t, ";"+c+";", api.ErrChar, 1)
		refused(t, "// x\n"+c, api.ErrChar, 5)
		reads(t, "//"+c, end(2+len(c)))
	}
	refused(t, "...", api.ErrChar, 2)
	refused(t, ".. .", api.ErrChar, 3)
	refused(t, "a.b", api.ErrChar, 1)
	refused(t, "1.5", api.ErrChar, 1)
	refused(t, ">>>", api.ErrChar, 2)
	refused(t, ">>>=", api.ErrChar, 2)
	refused(t, "a>b", api.ErrChar, 1)
	refused(t, "->>", api.ErrChar, 2)
	refused(t, "fnF", api.ErrChar, 2)
	refused(t, "1A", api.ErrChar, 1)
	refused(t, "1\x00", api.ErrChar, 1)
}

// P9.1: what begins with a digit and is no number.
func TestWrongNumbers(t *testing.T) {
	for _, x := range []string{
		"4294967296", "0x100000000", "0x", "0xg", "0x1g", "0xz", "0xx1", "0x0x1", "0x_", "0x_1", "0x1_0", "1a", "1_", "1_000", "09a", "0a", "0f", "0_", "00x1", "1x1", "9x", "0b1", "0o7", "1e5", "2x0", "1u32", "5z",
		"12a34", "99999999999999999999", strings.Repeat("9", 1000), "0x" + strings.Repeat("f", 1000), strings.Repeat("0", 1000) + "x1", "4294967296a", "0xfffffffff",
	} {
		refused(t, x, api.ErrNumber, 0)
		refused(t, "\t"+x+" ", api.ErrNumber, 1)
		refused(t, "a "+x+"\n", api.ErrNumber, 2)
		refused(t, "["+x+"]", api.ErrNumber, 1)
		refused(t, "//\n"+x+"//", api.ErrNumber, 3)
	}
	// A letter A to Z isn't of the number: that ends ahead of it.
	refused(t, "0xF", api.ErrNumber, 0)
	refused(t, "0XF", api.ErrChar, 1)
	refused(t, "0xfF", api.ErrChar, 3)
}

// P9.1: of two wrongs in one source the first one is told, and its own offset, but for ErrSize.
func TestOrder(t *testing.T) {
	long := strings.Repeat("a", api.MaxName+1)
	wrongs := map[string]api.Errno{"!": api.ErrChar, ".": api.ErrChar, "Z": api.ErrChar, long: api.ErrName, "0x": api.ErrNumber, "4294967296": api.ErrNumber, "1a": api.ErrNumber}
	big := strings.Repeat("\n", api.MaxSource)
	for a, want := range wrongs {
		for b := range wrongs {
			refused(t, a+" "+b, want, 0)
			refused(t, "x = "+a+";\n"+b+";", want, 4)
			refused(t, "x = y; // "+b+"\n"+a+"("+b, want, 11+len(b))
			refused(t, a+big+b, api.ErrSize, 0)
			refused(t, a+b+big, api.ErrSize, 0)
		}
	}
	refused(t, long+"!", api.ErrName, 0)
	refused(t, "!"+long, api.ErrChar, 0)
	refused(t, "0xg!", api.ErrNumber, 0)
	refused(t, "1!0x", api.ErrChar, 1)
	refused(t, "1"+long, api.ErrNumber, 0)
	refused(t, "x("+long+",0x", api.ErrName, 2)
}
