package lex_test

import (
	"slices"
	"strings"
	"testing"

	"remontoire/api"
	"remontoire/lex"
)

// P9.1: sources without a token but the end.
func TestNothing(t *testing.T) {
	for _, src := range []string{"", " ", "\t", "\r", "\n", " \t\r\n", strings.Repeat(" ", 1000), "//", "//x", "// x\n", "//\n//", "//\n ", "  //", "//!", "///", "//\r"} {
		reads(t, src, end(len(src)))
	}
	if l, e, at := lex.Tokens(nil); !slices.Equal(l, tokens(end(0))) || e != api.OK || at != 0 {
		t.Errorf("nil: %v, %d, %d", l, e, at)
	}
}

// P9.1: remarks at the end, with and without a line end, and slashes that are none.
func TestSlashes(t *testing.T) {
	reads(t, "x//", name(0, "x"), end(3))
	reads(t, "x//y", name(0, "x"), end(4))
	reads(t, "x//y\n", name(0, "x"), end(5))
	reads(t, "x//y\nz", name(0, "x"), name(5, "z"), end(6))
	reads(t, "x // y", name(0, "x"), end(6))
	reads(t, "1//2", number(0, "1", 1), end(4))
	reads(t, "0x1//2", number(0, "0x1", 1), end(6))
	reads(t, "+//2", sign(0, "+"), end(4))
	reads(t, "/", sign(0, "/"), end(1))
	reads(t, "x/y", name(0, "x"), sign(1, "/"), name(2, "y"), end(3))
	reads(t, "x/ /y", name(0, "x"), sign(1, "/"), sign(3, "/"), name(4, "y"), end(5))
	reads(t, "x///y", name(0, "x"), end(5))
	reads(t, "x/\n/y", name(0, "x"), sign(1, "/"), sign(3, "/"), name(4, "y"), end(5))
	reads(t, "/ // /\n/", sign(0, "/"), sign(7, "/"), end(8))
}

// P9.1: names of just as many bytes as there may be, and of one more; a number has no such limit.
func TestLongNames(t *testing.T) {
	for _, x := range []string{strings.Repeat("a", api.MaxName), strings.Repeat("_", api.MaxName), "z" + strings.Repeat("9", api.MaxName-1), strings.Repeat("ab_1", api.MaxName/4)} {
		reads(t, x, name(0, x), end(api.MaxName))
		reads(t, x+" "+x, name(0, x), name(api.MaxName+1, x), end(2*api.MaxName+1))
		reads(t, x+"+"+x, name(0, x), sign(api.MaxName, "+"), name(api.MaxName+1, x), end(2*api.MaxName+1))
		for _, more := range []string{"a", "_", "0", "x1", strings.Repeat("a", 100), strings.Repeat("z", 60000)} {
			refused(t, x+more, api.ErrName, 0)
			refused(t, "x "+x+more+" y", api.ErrName, 2)
			refused(t, x+"//\n"+x+more+"!", api.ErrName, api.MaxName+3)
		}
	}
	long := strings.Repeat("0", 100) + "1"
	reads(t, long, number(0, long, 1), end(101))
}

// P9.1: the greatest numbers, with any number of noughts ahead, and those that are one more.
func TestGreatNumbers(t *testing.T) {
	for _, n := range []int{0, 1, 2, 9, 10, 11, 100, 60000} {
		noughts := strings.Repeat("0", n)
		for text, num := range map[string]uint32{
			noughts + "4294967295": 1<<32 - 1, "0x" + noughts + "ffffffff": 1<<32 - 1, noughts + "0": 0, "0x" + noughts + "0": 0, noughts + "12": 12, "0x" + noughts + "12": 18,
		} {
			reads(t, text, number(0, text, num), end(len(text)))
		}
		for _, text := range []string{
			noughts + "4294967296", noughts + "4294967300", noughts + "5000000000", noughts + "10000000000",
			"0x" + noughts + "100000000", "0x" + noughts + "1ffffffff", "0x" + noughts + "fffffffff",
			noughts + "18446744073709551616", noughts + "18446744073709551617", "0x" + noughts + "10000000000000000", "0x" + noughts + "10000000000000001",
			noughts + "1" + strings.Repeat("0", 5000), "0x" + noughts + "1" + strings.Repeat("0", 5000),
		} {
			refused(t, text, api.ErrNumber, 0)
			refused(t, "x=\n"+text+";", api.ErrNumber, 3)
		}
	}
}

// P9.1: sources of as many bytes as there may be, of all kinds, and of one more.
func TestLongSources(t *testing.T) {
	all := func(x string) string { return strings.Repeat(x, api.MaxSource/len(x)) }
	for src, n := range map[string]int{
		all(" "): 0, all("\n"): 0, all("/"): 0, all("//\n "): 0, all("("): api.MaxSource, all("a "): api.MaxSource / 2, all("1+"): api.MaxSource, all("<<->"): api.MaxSource / 2,
		all("0"): 1, all(" ")[1:] + "x": 1, "//" + all("!")[2:]: 0, all("abcdefghijklmno "): api.MaxSource / 16,
	} {
		l := read(t, src)
		if len(l) != n+1 || l[n] != end(api.MaxSource) {
			t.Errorf("%.20q..: %d tokens, not %d", src, len(l), n+1)
		}
		for _, more := range []string{" ", "\n", "x", "!", "/", src} {
			refused(t, src+more, api.ErrSize, 0)
			refused(t, more+src, api.ErrSize, 0)
		}
	}
	refused(t, strings.Repeat("!", api.MaxSource), api.ErrChar, 0)
	refused(t, all(" ")[1:]+"!", api.ErrChar, api.MaxSource-1)
	refused(t, strings.Repeat("a", api.MaxSource), api.ErrName, 0)
	refused(t, strings.Repeat("9", api.MaxSource), api.ErrNumber, 0)
	refused(t, strings.Repeat("\x00", api.MaxSource+1), api.ErrSize, 0)
	refused(t, strings.Repeat(" ", 1<<22), api.ErrSize, 0)
}
