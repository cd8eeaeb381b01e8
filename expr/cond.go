package expr

import "plumbline/api"

// operators are the texts of the comparisons.
var operators = [...]string{api.Eq: "=", api.Ne: "!=", api.Lt: "<", api.Le: "<=", api.Gt: ">", api.Ge: ">="}

// Compare parses a comparison of two sums.
func (c *Cursor) Compare() (api.Tree, api.Errno) {
	l, e := c.Sum()
	if e != api.OK {
		return api.Tree{}, e
	}
	op, e := c.operator()
	if e != api.OK {
		return api.Tree{}, e
	}
	r, e := c.Sum()
	if e != api.OK {
		return api.Tree{}, e
	}
	return api.Tree{Kind: api.TCmp, L: l, Op: op, R: r}, api.OK
}

func (c *Cursor) operator() (int, api.Errno) {
	for op, text := range operators {
		if c.Take(text) {
			return op, api.OK
		}
	}
	return 0, api.ErrWant
}

// Cond parses a condition.
func (c *Cursor) Cond() (api.Tree, api.Errno) {
	return c.cond(api.MaxDepth)
}

// cond parses a condition, in which so many more levels are allowed.
func (c *Cursor) cond(levels int) (api.Tree, api.Errno) {
	return c.chain(api.TOr, "|", levels, c.both)
}

// both parses a part of a condition between "|".
func (c *Cursor) both(levels int) (api.Tree, api.Errno) {
	return c.chain(api.TAnd, "&", levels, c.one)
}

// chain parses one or more parts with a sign between them, as a tree of a kind whose
// first kid contains all parts but the last.
func (c *Cursor) chain(kind int, sign string, levels int, part func(int) (api.Tree, api.Errno)) (api.Tree, api.Errno) {
	t, e := part(levels)
	for e == api.OK && c.Take(sign) {
		var kid api.Tree
		kid, e = part(levels)
		t = api.Tree{Kind: kind, Kids: []api.Tree{t, kid}}
	}
	if e != api.OK {
		return api.Tree{}, e
	}
	return t, api.OK
}

// one parses a part of a condition between "&".
func (c *Cursor) one(levels int) (api.Tree, api.Errno) {
	switch {
	case levels == 0 && (c.sees("!") || c.sees("(")):
		return api.Tree{}, api.ErrDeep
	case c.Take("!"):
		return c.deny(levels - 1)
	case c.Take("("):
		return c.inner(levels - 1)
	case c.Take("true"):
		return api.Tree{Kind: api.TTrue}, api.OK
	case c.Take("false"):
		return api.Tree{Kind: api.TFalse}, api.OK
	}
	return c.Compare()
}

// deny parses what follows "!".
func (c *Cursor) deny(levels int) (api.Tree, api.Errno) {
	kid, e := c.one(levels)
	if e != api.OK {
		return api.Tree{}, e
	}
	return api.Tree{Kind: api.TNot, Kids: []api.Tree{kid}}, api.OK
}

// inner parses what follows "(".
func (c *Cursor) inner(levels int) (api.Tree, api.Errno) {
	t, e := c.cond(levels)
	if e == api.OK {
		e = c.Want(")")
	}
	if e != api.OK {
		return api.Tree{}, e
	}
	return t, api.OK
}
