package ltl

import (
	"plumbline/api"
	"plumbline/expr"
	"plumbline/lex"
)

// parser reads the parts of a property.
type parser struct {
	*expr.Cursor
	procs  []api.Proc
	levels int // that the next token is within
}

// part parses a part of a property.
type part func() (api.Tree, api.Errno)

// prop parses a property.
func (p *parser) prop() (api.Tree, api.Errno) {
	t, e := p.or()
	if e == api.OK && p.Take("->") {
		return joined(api.TImp, t, p.prop)
	}
	return t, e
}

// or parses a part of a property between "->".
func (p *parser) or() (api.Tree, api.Errno) {
	return p.chain(api.TOr, "|", p.and)
}

// and parses a part of a property between "|".
func (p *parser) and() (api.Tree, api.Errno) {
	return p.chain(api.TAnd, "&", p.bin)
}

// chain parses one or more parts with a sign between them, as a tree of a kind whose
// first kid contains all parts but the last.
func (p *parser) chain(kind int, sign string, next part) (api.Tree, api.Errno) {
	t, e := next()
	for e == api.OK && p.Take(sign) {
		t, e = joined(kind, t, next)
	}
	return t, e
}

// bin parses a part of a property between "&".
func (p *parser) bin() (api.Tree, api.Errno) {
	t, e := p.un()
	switch {
	case e != api.OK:
		return api.Tree{}, e
	case p.Take("U"):
		return joined(api.TUntil, t, p.bin)
	case p.Take("R"):
		return joined(api.TFree, t, p.bin)
	}
	return t, api.OK
}

// joined parses a second kid by next, and returns the tree of both kids.
func joined(kind int, first api.Tree, next part) (api.Tree, api.Errno) {
	second, e := next()
	if e != api.OK {
		return api.Tree{}, e
	}
	return api.Tree{Kind: kind, Kids: []api.Tree{first, second}}, api.OK
}

// un parses a part of a property between "U" and "R".
func (p *parser) un() (api.Tree, api.Errno) {
	switch p.At().Text {
	case "(":
		return p.deeper(p.inner)
	case "!":
		return p.above(api.TNot)
	case "X":
		return p.above(api.TNext)
	case "G":
		return p.above(api.TAll)
	case "F":
		return p.above(api.TSome)
	}
	switch {
	case p.Take("true"):
		return api.Tree{Kind: api.TTrue}, api.OK
	case p.Take("false"):
		return api.Tree{Kind: api.TFalse}, api.OK
	case p.Take("@"):
		return p.place()
	}
	return p.Compare()
}

// above parses a tree of a kind with one kid.
func (p *parser) above(kind int) (api.Tree, api.Errno) {
	kid, e := p.deeper(p.un)
	if e != api.OK {
		return api.Tree{}, e
	}
	return api.Tree{Kind: kind, Kids: []api.Tree{kid}}, api.OK
}

// deeper parses by next what is behind the next token, one level deeper.
func (p *parser) deeper(next part) (api.Tree, api.Errno) {
	if p.levels == api.MaxDepth {
		return api.Tree{}, api.ErrDeep
	}
	p.I++
	p.levels++
	t, e := next()
	p.levels--
	return t, e
}

// inner parses what follows "(".
func (p *parser) inner() (api.Tree, api.Errno) {
	t, e := p.prop()
	if e == api.OK {
		e = p.Want(")")
	}
	if e != api.OK {
		return api.Tree{}, e
	}
	return t, api.OK
}

// place parses what follows "@".
func (p *parser) place() (api.Tree, api.Errno) {
	proc, e := p.name(func(name string) bool { return procOf(p.procs, name) >= 0 })
	if e == api.OK {
		e = p.Want(".")
	}
	if e != api.OK {
		return api.Tree{}, e
	}
	i := procOf(p.procs, proc)
	loc, e := p.name(func(name string) bool { return locOf(p.procs, i, name) >= 0 })
	if e != api.OK {
		return api.Tree{}, e
	}
	return api.Tree{Kind: api.TAt, Proc: proc, Loc: loc}, api.OK
}

// name parses a name that is known.
func (p *parser) name(known func(name string) bool) (string, api.Errno) {
	name := p.At().Text
	switch {
	case !lex.Name(name):
		return "", api.ErrWant
	case !known(name):
		return "", api.ErrName
	}
	p.I++
	return name, api.OK
}
