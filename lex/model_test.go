package lex_test

import (
	"math/big"
	"regexp"
	"slices"
	"strings"
	"testing"

	"remontoire/api"
	"remontoire/lex"
)

var (
	gaps    = regexp.MustCompile(`^([ \t\r\n]|//[^\n]*)*`)
	names   = regexp.MustCompile(`^[a-z_][a-z_0-9]*`)
	digits  = regexp.MustCompile(`^[0-9][a-z_0-9]*`)
	decimal = regexp.MustCompile(`^[0-9]+$`)
	hexa    = regexp.MustCompile(`^0x([0-9a-f]+)$`)
)

// model tells a source's tokens by regular expressions, or the first error and its offset.
func model(src string) ([]lex.Token, api.Errno, int) {
	if len(src) > api.MaxSource {
		return nil, api.ErrSize, 0
	}
	var l []lex.Token
	at := 0
	for {
		at += len(gaps.FindString(src[at:]))
		if at == len(src) {
			return append(l, end(at)), api.OK, 0
		}
		x, e := modelToken(src[at:])
		if e != api.OK {
			return nil, e, at
		}
		x.At = at
		l = append(l, x)
		at += len(x.Text)
	}
}

// modelToken is the longest of all tokens that a text begins with.
func modelToken(src string) (lex.Token, api.Errno) {
	if x := names.FindString(src); x != "" {
		if len(x) > api.MaxName {
			return lex.Token{}, api.ErrName
		}
		return name(0, x), api.OK
	}
	if x := digits.FindString(src); x != "" {
		return modelNumber(x)
	}
	best := ""
	for _, s := range allSigns {
		if strings.HasPrefix(src, s) && len(s) > len(best) {
			best = s
		}
	}
	if best == "" {
		return lex.Token{}, api.ErrChar
	}
	return sign(0, best), api.OK
}

func modelNumber(text string) (lex.Token, api.Errno) {
	n, ok := new(big.Int), false
	if decimal.MatchString(text) {
		n, ok = n.SetString(text, 10)
	} else if m := hexa.FindStringSubmatch(text); m != nil {
		n, ok = n.SetString(m[1], 16)
	}
	if !ok || n.BitLen() > 32 {
		return lex.Token{}, api.ErrNumber
	}
	return number(0, text, uint32(n.Uint64())), api.OK
}

// asModel holds what Tokens tells of a source against the model, and tells the error.
func asModel(t *testing.T, src string) api.Errno {
	t.Helper()
	l, e, at := lex.Tokens([]byte(src))
	want, wrong, where := model(src)
	if e != wrong || at != where || !slices.Equal(l, want) {
		t.Errorf("%.200q: %v, %d at %d, not %v, %d at %d", src, l, e, at, want, wrong, where)
	}
	return e
}

// parts are what sources are made of; of the wrong ones few, for else hardly one would be right.
func parts() []string {
	l := slices.Concat(allSigns, allSigns, []string{
		" ", " ", " ", "\n", "\t", "\r", "//", "//x y\n", "//!\n", "a", "f", "x", "z", "_", "fn", "u32", "0", "1", "9", "0x", "0x1", "0xf", "12", "00", "4294967295", "0xffffffff",
		"abcdefghijklmnop", "zyxwvutsrqponmlk",
	})
	return append(l, ".", ">", "A", "\x80", "4294967296", strings.Repeat("q", api.MaxName), strings.Repeat("q", api.MaxName+1))
}

// anySource is one of parts, with blanks between most of them, as the dice fall.
func anySource(d *dice, parts []string, longest int) string {
	var b strings.Builder
	for range d.below(longest) {
		b.WriteString(parts[d.below(len(parts))])
		if d.below(4) > 0 {
			b.WriteString(" ")
		}
	}
	return b.String()
}

// P9.1, P9.2: sources of all kinds, right and wrong, against the model; right ones are shown and read again.
func TestModel(t *testing.T) {
	d, all := dice(9), parts()
	met := map[api.Errno]int{}
	for range 20000 {
		src := anySource(&d, all, 40)
		e := asModel(t, src)
		if met[e]++; e == api.OK {
			again(t, src)
		}
		if t.Failed() {
			return
		}
	}
	for _, e := range []api.Errno{api.OK, api.ErrChar, api.ErrName, api.ErrNumber} {
		if met[e] < 200 {
			t.Errorf("%d sources with %d: %v", met[e], e, met)
		}
	}
}

// P9.1: each two bytes, and each three of those that matter, against the model.
func TestModelShort(t *testing.T) {
	for i := range 256 * 256 {
		asModel(t, string([]byte{byte(i >> 8), byte(i)}))
	}
	const some = " \n/.<>=-+az_x0189gfAZ\x00\xff"
	for i := range len(some) {
		for j := range len(some) {
			for k := range len(some) {
				asModel(t, string([]byte{some[i], some[j], some[k]}))
			}
		}
	}
}

// P9.1: bytes that are any at all: it ends and tells what the model tells.
func TestModelBytes(t *testing.T) {
	d := dice(99)
	for range 2000 {
		b := make([]byte, d.below(60))
		for i := range b {
			b[i] = byte(d.below(256))
		}
		asModel(t, string(b))
	}
}
