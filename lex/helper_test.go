package lex_test

import (
	"fmt"
	"math/rand"
	"strings"
	"testing"

	"plumbline/api"
	"plumbline/lex"
)

var kinds = []string{1: "Word", 2: "Sign", 3: "Num", 4: "Big", 5: "End"}

// shown tells tokens as in "Word x 1:1, End 1:2".
func shown(ts []lex.Token) string {
	var all []string
	for _, t := range ts {
		all = append(all, strings.TrimSpace(kinds[t.Kind]+" "+t.Text)+" "+place(t.At))
	}
	return strings.Join(all, ", ")
}

func place(at api.Pos) string { return fmt.Sprintf("%d:%d", at.Line, at.Col) }

// read tells all that All returns for s: its tokens, or its error.
func read(s string) string {
	ts, at, e := lex.All(s)
	switch {
	case e == api.OK && at == api.Pos{}:
		return shown(ts)
	case e != api.OK && len(ts) == 0:
		return wrong(e, at)
	}
	return fmt.Sprint("all at once: ", ts, at, e)
}

func wrong(e api.Errno, at api.Pos) string {
	name := map[api.Errno]string{api.ErrSign: "ErrSign", api.ErrLong: "ErrLong", api.ErrForm: "ErrForm"}[e]
	return name + " at " + place(at)
}

// plain are tokens without their positions.
func plain(ts []lex.Token) []lex.Token {
	var all []lex.Token
	for _, t := range ts {
		all = append(all, lex.Token{Kind: t.Kind, Text: t.Text})
	}
	return all
}

func expect(t *testing.T, what, got, want string) {
	t.Helper()
	if got != want {
		t.Errorf("%.200q:\n got %.500s\nwant %.500s", what, got, want)
	}
}

func one(r *rand.Rand, texts ...string) string { return texts[r.Intn(len(texts))] }

func letters(r *rand.Rand, from string, n int) string {
	var text strings.Builder
	for range n {
		text.WriteByte(from[r.Intn(len(from))])
	}
	return text.String()
}

// piece is a token or a part of one, in most cases.
func piece(r *rand.Rand) string {
	switch r.Intn(8) {
	case 0:
		return one(r, "a", "z", "q") + letters(r, "abcxyz_0189", r.Intn(23))
	case 1:
		return letters(r, "0123456789", 1+r.Intn(3))
	case 2:
		return one(r, "0", "1", "9") + letters(r, "0123456789", r.Intn(63))
	case 3:
		return one(r, "X", "G", "F", "U", "R")
	case 4, 5:
		return one(r, "(", ")", ",", ";", ":", ".", "+", "*", "&", "|", "!", "@", "=", "<", ">", "/", "-")
	case 6:
		return one(r, "->", ":=", "!=", "<=", ">=", "..")
	}
	return one(r, "true", "false", "var", "in", "init", "proc", "loc", "end", "trues", "i", "en", "initial")
}

// gap is what can stand between tokens.
func gap(r *rand.Rand) string {
	text := ""
	for range r.Intn(4) {
		text += one(r, " ", "  ", "\t", "\n", "\n\n", "#\n", "# a + ? Z é \r #\n", "\t# 007\n")
	}
	return text
}

// odd is a byte that cannot start a token, mostly.
func odd(r *rand.Rand) string {
	return one(r, "?", "_", "A", "Z", "\r", "\x00", "\v", "\x7f", "\xff", "é", "\u2028", "~", "$", "\"", "[", "{", "^", "%", "'", "\\", "`")
}

// texts are texts of pieces and gaps. Some have errors.
func texts(n int) []string {
	r := rand.New(rand.NewSource(10))
	var all []string
	for i := range n {
		var text strings.Builder
		for range r.Intn(12) {
			text.WriteString(piece(r))
			if r.Intn(2) == 0 {
				text.WriteString(gap(r))
			}
			if i%3 == 0 && r.Intn(12) == 0 {
				text.WriteString(odd(r))
			}
		}
		if r.Intn(6) == 0 {
			text.WriteString("# no newline \r\xff")
		}
		all = append(all, text.String())
	}
	return all
}
