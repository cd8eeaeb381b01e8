package expr

import (
	"plumbline/api"
	"plumbline/lex"
)

// Cursor is a list of tokens, and the index of the next one. If Known is set, only
// the names in Vars are accepted.
type Cursor struct {
	Tokens []lex.Token
	I      int
	Vars   []string
	Known  bool
}

// At returns the token with index I: the last one if I is beyond the end, the first
// one if I is negative, and an End if there are no tokens.
func (c *Cursor) At() lex.Token {
	if c == nil || len(c.Tokens) == 0 {
		return lex.Token{Kind: lex.End}
	}
	return c.Tokens[min(max(c.I, 0), len(c.Tokens)-1)]
}

// sees reports whether the next token is a Sign, Word or Big with this text.
func (c *Cursor) sees(text string) bool {
	t := c.At()
	return t.Text == text && (t.Kind == lex.Sign || t.Kind == lex.Word || t.Kind == lex.Big)
}

// skip advances to the next token. I cannot be negative after it was beyond the end.
func (c *Cursor) skip() {
	c.I = max(c.I, c.I+1)
}

// Take reports whether the next token is a Sign, Word or Big with this text, and
// then advances.
func (c *Cursor) Take(text string) bool {
	if !c.sees(text) {
		return false
	}
	c.skip()
	return true
}

// Want takes a token like Take, and returns ErrWant if it is another one.
func (c *Cursor) Want(text string) api.Errno {
	if !c.Take(text) {
		return api.ErrWant
	}
	return api.OK
}
