package model

import (
	"plumbline/api"
	"plumbline/expr"
	"plumbline/lex"
	"plumbline/zint"
)

// parser reads the parts of a model. After an error it reads nothing more, so that the
// error is at the next token.
type parser struct {
	*expr.Cursor
	wrong             api.Errno
	vars, procs, locs names // locs are those of the process that is being read
}

// take is Take, unless there is an error.
func (p *parser) take(text string) bool {
	return p.wrong == api.OK && p.Take(text)
}

// want is Want, unless there is an error.
func (p *parser) want(text string) {
	if p.wrong == api.OK {
		p.wrong = p.Want(text)
	}
}

// read reads a part by a function, unless there is an error.
func read[T any](p *parser, by func() (T, api.Errno)) T {
	var part T
	if p.wrong == api.OK {
		part, p.wrong = by()
	}
	return part
}

// list reads one or more parts with "," between them.
func (p *parser) list(part func()) {
	part()
	for p.take(",") {
		part()
	}
}

// name reads a name for which check returns no error.
func (p *parser) name(check func(name string) api.Errno) string {
	return read(p, func() (string, api.Errno) {
		text := p.At().Text
		if !lex.Name(text) {
			return "", api.ErrWant
		}
		if e := check(text); e != api.OK {
			return "", e
		}
		p.Take(text)
		return text, api.OK
	})
}

// fresh reads a name, and declares it as one of at most so many.
func (p *parser) fresh(in names, most int) string {
	return p.name(func(name string) api.Errno {
		switch {
		case len(in) == most:
			return api.ErrMany
		case in.has(name):
			return api.ErrSame
		}
		in.add(name)
		return api.OK
	})
}

// place reads the name of a location. If the process is full, none may follow.
func (p *parser) place(full bool) string {
	return p.name(func(name string) api.Errno {
		switch {
		case full:
			return api.ErrMany
		case !p.locs.has(name):
			return api.ErrName
		}
		return api.OK
	})
}

func (p *parser) model() api.Model {
	var m api.Model
	for p.take("var") {
		m.Decls = append(m.Decls, p.decl())
	}
	p.want("init")
	m.Init = read(p, p.Cond)
	p.want(";")
	m.Procs = append(m.Procs, p.proc())
	for p.wrong == api.OK && p.At().Text == "proc" {
		if len(m.Procs) == api.MaxProcs {
			p.wrong = api.ErrMany
		}
		m.Procs = append(m.Procs, p.proc())
	}
	return m
}

func (p *parser) decl() api.Decl {
	var d api.Decl
	p.list(func() {
		d.Names = append(d.Names, p.fresh(p.vars, api.MaxVars))
	})
	p.Vars = append(p.Vars, d.Names...)
	if p.take("in") {
		d.Ranged = true
		d.Lo = p.sign() + p.number()
		p.want("..")
		d.Hi = p.atLeast(d.Lo)
	}
	p.want(";")
	return d
}

func (p *parser) sign() string {
	if p.take("-") {
		return "-"
	}
	return ""
}

func (p *parser) number() string {
	return read(p, func() (string, api.Errno) {
		t := p.At()
		if t.Kind != lex.Num {
			return "", api.ErrWant
		}
		p.I++
		return t.Text, api.OK
	})
}

// atLeast reads an integer that is not less than lo.
func (p *parser) atLeast(lo string) string {
	sign := p.sign()
	if t := p.At(); p.wrong == api.OK && t.Kind == lex.Num && !ordered(lo, sign+t.Text) {
		p.wrong = api.ErrRange
	}
	return sign + p.number()
}

// ordered reports whether the first of two integers is not greater than the second.
func ordered(lo, hi string) bool {
	l, _ := zint.Parse(lo)
	h, _ := zint.Parse(hi)
	return zint.Cmp(l, h) <= 0
}

func (p *parser) proc() api.Proc {
	var proc api.Proc
	p.want("proc")
	proc.Name = p.fresh(p.procs, api.MaxProcs)
	p.want("loc")
	p.locs = names{}
	p.list(func() {
		proc.Locs = append(proc.Locs, p.fresh(p.locs, api.MaxLocs))
	})
	p.want(";")
	for p.wrong == api.OK && !p.take("end") {
		proc.Cmds = append(proc.Cmds, p.cmd(len(proc.Cmds) == api.MaxCmds))
	}
	return proc
}

// cmd reads a command. If the process is full, none may follow.
func (p *parser) cmd(full bool) api.Cmd {
	var c api.Cmd
	c.From = p.place(full)
	p.want("->")
	c.To = p.place(false)
	if p.take(":") {
		c.Guard = read(p, p.Cond)
	}
	if p.take("/") {
		assigned := names{}
		p.list(func() {
			c.Sets = append(c.Sets, p.set(assigned))
		})
	}
	p.want(";")
	return c
}

// set reads an assignment to a variable that the command has not assigned.
func (p *parser) set(assigned names) api.Set {
	var s api.Set
	s.Var = p.name(func(name string) api.Errno {
		switch {
		case assigned.has(name):
			return api.ErrSame
		case !p.vars.has(name):
			return api.ErrName
		}
		assigned.add(name)
		return api.OK
	})
	p.want(":=")
	s.Any = p.take("*")
	if !s.Any {
		s.E = read(p, p.Sum)
	}
	return s
}
