package expr

import (
	"slices"

	"plumbline/api"
	"plumbline/lex"
)

// Sum parses a sum.
func (c *Cursor) Sum() ([]api.Mono, api.Errno) {
	var ms []api.Mono
	neg := c.Take("-")
	for {
		m, e := c.mono(len(ms) == api.MaxParts)
		if e != api.OK {
			return nil, e
		}
		m.Neg = neg
		ms = append(ms, m)
		neg = c.Take("-")
		if !neg && !c.Take("+") {
			return ms, api.OK
		}
	}
}

// mono parses a mono, or returns ErrMany at its start if the sum is full.
func (c *Cursor) mono(full bool) (api.Mono, api.Errno) {
	t := c.At()
	number := t.Kind == lex.Num && lex.Number(t.Text)
	switch {
	case !number && !c.seesName():
		return api.Mono{}, api.ErrWant
	case full:
		return api.Mono{}, api.ErrMany
	case !number:
		name, e := c.name()
		return api.Mono{Var: name}, e
	}
	c.skip()
	if !c.Take("*") {
		return api.Mono{Num: t.Text}, api.OK
	}
	name, e := c.name()
	return api.Mono{Num: t.Text, Var: name}, e
}

func (c *Cursor) seesName() bool {
	t := c.At()
	return t.Kind == lex.Word && lex.Name(t.Text)
}

// name parses the name of a variable.
func (c *Cursor) name() (string, api.Errno) {
	name := c.At().Text
	switch {
	case !c.seesName():
		return "", api.ErrWant
	case c.Known && !slices.Contains(c.Vars, name):
		return "", api.ErrName
	}
	c.skip()
	return name, api.OK
}
