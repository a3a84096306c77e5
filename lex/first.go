package lex

import (
	"math"
	"strings"

	"remontoire/api"
)

// signs are all signs; each stands ahead of those that it begins with, so that the first one that fits is the longest.
var signs = [...]string{
	"->", "..", "==", "<<<", "<<", ">>", "<", "(", ")", "{", "}", "[", "]",
	",", ";", ":", "=", "+", "-", "*", "/", "%", "&", "|", "^", "~",
}

// parted is the offset, from one on, where a token begins; it is the length where none follows.
func parted(text string, at int) int {
	for at < len(text) {
		switch {
		case isBlank(text[at]):
			at++
		case strings.HasPrefix(text[at:], "//"):
			at += remark(text[at:])
		default:
			return at
		}
	}
	return at
}

func isBlank(c byte) bool { return c == ' ' || c == '\t' || c == '\r' || c == '\n' }

// remark is the length of the remark that a text begins with; the line end isn't of it.
func remark(text string) int {
	if n := strings.IndexByte(text, '\n'); n >= 0 {
		return n
	}
	return len(text)
}

// first is the token that a text begins with, but for where it stands.
func first(text string) (Token, api.Errno) {
	switch {
	case Letter(text[0]):
		return name(word(text))
	case Digit(text[0]):
		return number(word(text))
	}
	return sign(text)
}

// word is as much of a text as are letters, underscores and digits.
func word(text string) string {
	for i := range len(text) {
		if !Letter(text[i]) && !Digit(text[i]) {
			return text[:i]
		}
	}
	return text
}

func name(word string) (Token, api.Errno) {
	if len(word) > api.MaxName {
		return Token{}, api.ErrName
	}
	return Token{Kind: Name, Text: word}, api.OK
}

func number(word string) (Token, api.Errno) {
	n, ok := value(word)
	if !ok {
		return Token{}, api.ErrNumber
	}
	return Token{Kind: Number, Text: word, Num: n}, api.OK
}

// value is what a word of decimal digits, or of 0x and hexadecimal ones, says.
func value(word string) (uint32, bool) {
	digits, base := word, uint64(10)
	if strings.HasPrefix(word, "0x") {
		digits, base = word[2:], 16
	}
	n := uint64(0)
	for i := range len(digits) {
		d := digit(digits[i])
		if d >= base {
			return 0, false
		}
		n = n*base + d
		// More digits, however many, make it no less: it must be left here, ahead of the wrap-round.
		if n > math.MaxUint32 {
			return 0, false
		}
	}
	return uint32(n), digits != ""
}

// digit is what a digit says, or 16, that is no digit's, of what is none.
func digit(c byte) uint64 {
	switch {
	case Digit(c):
		return uint64(c - '0')
	case c >= 'a' && c <= 'f':
		return uint64(c-'a') + 10
	}
	return 16
}

func sign(text string) (Token, api.Errno) {
	for _, s := range signs {
		if strings.HasPrefix(text, s) {
			return Token{Kind: Sign, Text: s}, api.OK
		}
	}
	return Token{}, api.ErrChar
}
