package lex

import (
	"strings"

	"plumbline/api"
)

// bigs and signs are the tokens of one byte.
const (
	bigs  = "XGFUR"
	signs = "(),;:.+*&|!@=<>/-"
)

// blank returns the number of bytes of spaces and comments at the start of s.
func blank(s string) int {
	comment := false
	for i := range len(s) {
		switch c := s[i]; {
		case c == '\n':
			comment = false
		case c == '#':
			comment = true
		case !comment && c != ' ' && c != '\t':
			return i
		}
	}
	return len(s)
}

// first returns the kind and the size of what s, which is not empty, starts with: a
// token, or a word or number with an error, or a Sign of size 0 if it is neither.
func first(s string) (kind, size int) {
	switch c := s[0]; {
	case isLetter(rune(c)):
		return Word, run(s, isWordPart)
	case isDigit(rune(c)):
		return Num, run(s, isDigit)
	case strings.IndexByte(bigs, c) >= 0:
		return Big, 1
	}
	return Sign, signSize(s)
}

// signSize returns the size of the longest sign at the start of s, or 0.
func signSize(s string) int {
	if len(s) >= 2 {
		switch s[:2] {
		case "->", ":=", "!=", "<=", ">=", "..":
			return 2
		}
	}
	if strings.IndexByte(signs, s[0]) >= 0 {
		return 1
	}
	return 0
}

// run returns the number of bytes of the characters at the start of s that are in
// a set of characters of one byte.
func run(s string, in func(rune) bool) int {
	for i, c := range s {
		if !in(c) {
			return i
		}
	}
	return len(s)
}

func isLetter(c rune) bool {
	return c >= 'a' && c <= 'z'
}

func isDigit(c rune) bool {
	return c >= '0' && c <= '9'
}

func isWordPart(c rune) bool {
	return isLetter(c) || isDigit(c) || c == '_'
}

// check returns the error of what first found.
func check(kind int, text string) api.Errno {
	switch {
	case text == "":
		return api.ErrSign
	case kind == Word && len(text) > api.MaxWord:
		return api.ErrLong
	case kind == Num && len(text) > api.MaxNumber:
		return api.ErrLong
	case kind == Num && len(text) > 1 && text[0] == '0':
		return api.ErrForm
	}
	return api.OK
}
