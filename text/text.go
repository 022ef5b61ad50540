// Package text: letters, numbers and quoted texts, byte by byte.
package text

import (
	"strconv"
	"strings"
)

const (
	maxDigits = 10         // of a number
	maxNumber = 4294967295 // that a text may tell
	maxQuoted = 200        // bytes of a text that is told in quotes
)

// Fold is s with the letters A to Z turned small, all else as it is.
func Fold(s string) string {
	var b strings.Builder
	b.Grow(len(s))
	for i := range len(s) {
		c := s[i]
		if 'A' <= c && c <= 'Z' {
			c += 'a' - 'A'
		}
		b.WriteByte(c)
	}
	return b.String()
}

// Digits is n in decimal; 0 where n is below 0.
func Digits(n int) string {
	return strconv.Itoa(max(n, 0))
}

// Number is the number that s tells in decimal.
func Number(s string) (int, bool) {
	if s == "" || len(s) > maxDigits {
		return 0, false
	}
	if s[0] == '0' && len(s) > 1 {
		return 0, false
	}
	n := 0
	for i := range len(s) {
		c := s[i]
		if c < '0' || c > '9' {
			return 0, false
		}
		n = n*10 + int(c-'0')
	}
	if n > maxNumber {
		return 0, false
	}
	return n, true
}

// Atom tells whether s may stand in IMAP as it is, without quotes.
func Atom(s string) bool {
	for i := range len(s) {
		if !inAtom(s[i]) {
			return false
		}
	}
	return s != ""
}

func inAtom(c byte) bool {
	switch c {
	case '(', ')', '{', '}', '%', '*', '"', '\\', ']':
		return false
	}
	return 33 <= c && c <= 126
}

// String is s as IMAP tells texts: in quotes, or as a literal.
func String(s string) string {
	if !quotable(s) {
		return "{" + Digits(len(s)) + "}\r\n" + s
	}
	var b strings.Builder
	b.WriteByte('"')
	for i := range len(s) {
		c := s[i]
		if c == '"' || c == '\\' {
			b.WriteByte('\\')
		}
		b.WriteByte(c)
	}
	b.WriteByte('"')
	return b.String()
}

func quotable(s string) bool {
	if len(s) > maxQuoted {
		return false
	}
	for i := range len(s) {
		if s[i] < 32 || s[i] > 126 {
			return false
		}
	}
	return true
}

// In tells whether sub is in s, great and small letters being one.
func In(s, sub string) bool {
	return strings.Contains(Fold(s), Fold(sub))
}
