package model_test

import (
	"fmt"
	"math/big"
	"strings"

	"plumbline/api"
	"plumbline/lex"
)

// grammar is that of chapters 12 and 11, without repetitions. A lower-case word that
// is not a rule is a token; what stands behind "'" tells the use of the token.
const grammar = `
model = decls init cond ; proc procs $
decls = | decl decls
decl  = var name'var vars range ;
vars  = | , name'var vars
range = | in lo .. hi
lo    = number'lo | -'lo number'lo
hi    = number'hi | -'hi number'hi
procs = | proc procs
proc  = proc'proc name'proc loc name'loc locs ; cmds end
locs  = | , name'loc locs
cmds  = | cmd cmds
cmd   = name'from -> name'to guard sets ;'cmd
guard = | : cond
sets  = | /'sets set more
more  = | , set more
set   = name'set := any
any   = * | sum
cond  = both ors
ors   = | PIPE both ors
both  = one ands
ands  = | & one ands
one   = !'level one | ('level cond )'level | true | false | sum cmp sum
cmp   = = | != | < | <= | > | >=
sum   = mono monos | - mono monos
monos = | + mono monos | - mono monos
mono  = number'mono times | name'mono
times = | * name'factor
`

// rules are the alternatives of each rule of the grammar.
var rules = func() map[string][][]string {
	all := map[string][][]string{}
	for _, line := range strings.Split(strings.TrimSpace(grammar), "\n") {
		name, right, _ := strings.Cut(line, "=")
		for _, alternative := range strings.Split(right, "|") {
			all[strings.TrimSpace(name)] = append(all[strings.TrimSpace(name)], strings.Fields(alternative))
		}
	}
	return all
}()

// next are the stacks that begin with a token, for a stack that may begin with a rule.
func next(stack []string) [][]string {
	alternatives, isRule := rules[stack[0]]
	if !isRule {
		return [][]string{stack}
	}
	var all [][]string
	for _, a := range alternatives {
		all = append(all, next(append(append([]string{}, a...), stack[1:]...))...)
	}
	return all
}

// class is what a token is in the grammar.
func class(t lex.Token) string {
	switch {
	case t.Kind == lex.End:
		return "$"
	case t.Kind == lex.Num:
		return "number"
	case t.Kind == lex.Word && !lex.Reserved(t.Text):
		return "name"
	case t.Text == "|":
		return "PIPE"
	}
	return t.Text
}

// uses are the uses of the tokens up to the first with which no valid text can
// continue: all stacks of what may follow are tried side by side.
func uses(ts []lex.Token) []string {
	var all []string
	stacks := [][]string{{"model"}}
	for _, t := range ts {
		var left [][]string
		use := ""
		for _, s := range stacks {
			for _, n := range next(s) {
				token, u, _ := strings.Cut(n[0], "'")
				if token == class(t) {
					left, use = append(left, n[1:]), u
				}
			}
		}
		switch len(left) {
		case 0:
			return all
		case 1:
		default:
			panic("two ways to read " + t.Text)
		}
		stacks, all = left, append(all, use)
	}
	return all
}

// reader finds what is wrong with tokens beyond the grammar, from their uses.
type reader struct {
	declared map[string]int // the names of variables, processes and locations, each with its sort in front
	assigned map[string]int
	counts   map[string]int
	levels   []string
	lo, hi   string
	monos    int
}

// first tells the error of a text without errors of layer 10, or "", and the use of
// its token.
func first(ts []lex.Token) (text, use string) {
	r := &reader{declared: map[string]int{}, assigned: map[string]int{}, counts: map[string]int{}}
	all := uses(ts)
	for i, use := range all {
		if e := r.wrong(use, ts[i]); e != api.OK {
			return fmt.Sprintf("%s at %d:%d", codes[e], ts[i].At.Line, ts[i].At.Col), use
		}
	}
	if len(all) < len(ts) {
		at := ts[len(all)].At
		return fmt.Sprintf("ErrWant at %d:%d", at.Line, at.Col), ""
	}
	return "", ""
}

func (r *reader) wrong(use string, t lex.Token) api.Errno {
	r.track(use, t)
	switch use {
	case "var":
		return r.declare(use, t.Text, 16)
	case "proc":
		if class(t) == "proc" {
			r.forget("loc", "from")
			return r.count("keyword", 8)
		}
		return r.declare(use, t.Text, 8)
	case "loc":
		return r.declare(use, t.Text, 16)
	case "from":
		if e := r.count(use, 32); e != api.OK {
			return e
		}
		return r.known("loc", t.Text)
	case "to":
		return r.known("loc", t.Text)
	case "set":
		r.assigned[t.Text]++
		if r.assigned[t.Text] > 1 {
			return api.ErrSame
		}
		return r.known("var", t.Text)
	case "mono", "factor":
		if r.monos > 64 {
			return api.ErrMany
		}
		if class(t) == "name" {
			return r.known("var", t.Text)
		}
	case "level":
		if len(r.levels) > 60 {
			return api.ErrDeep
		}
	case "hi":
		if class(t) == "number" && greater(r.lo, r.hi) {
			return api.ErrRange
		}
	}
	return api.OK
}

// track follows what is open at a token.
func (r *reader) track(use string, t lex.Token) {
	switch use {
	case "lo":
		r.lo += t.Text
	case "hi":
		r.hi += t.Text
	case "sets":
		r.assigned = map[string]int{}
	case "mono":
		r.monos++
	default:
		if use != "factor" && t.Text != "+" && t.Text != "-" && t.Text != "*" {
			r.monos = 0
		}
	}
	switch {
	case t.Text == ";":
		r.lo, r.hi, r.levels = "", "", nil
	case use == "sets":
		r.levels = nil
	case t.Text == "&" || t.Text == "|":
		r.close("!")
	case use == "level" && t.Text == ")":
		r.close("!")
		r.levels = r.levels[:len(r.levels)-1]
		r.close("!")
	case use == "level":
		r.levels = append(r.levels, t.Text)
	}
}

// close ends the levels of a sign that are the last ones.
func (r *reader) close(sign string) {
	for len(r.levels) > 0 && r.levels[len(r.levels)-1] == sign {
		r.levels = r.levels[:len(r.levels)-1]
	}
}

func (r *reader) count(what string, most int) api.Errno {
	r.counts[what]++
	if r.counts[what] > most {
		return api.ErrMany
	}
	return api.OK
}

func (r *reader) declare(sort, name string, most int) api.Errno {
	if e := r.count(sort, most); e != api.OK {
		return e
	}
	r.declared[sort+" "+name]++
	if r.declared[sort+" "+name] > 1 {
		return api.ErrSame
	}
	return api.OK
}

// forget begins to count anew.
func (r *reader) forget(sorts ...string) {
	for _, sort := range sorts {
		r.counts[sort] = 0
		for name := range r.declared {
			if strings.HasPrefix(name, sort+" ") {
				delete(r.declared, name)
			}
		}
	}
}

func (r *reader) known(sort, name string) api.Errno {
	if r.declared[sort+" "+name] == 0 {
		return api.ErrName
	}
	return api.OK
}

func greater(lo, hi string) bool {
	l, _ := new(big.Int).SetString(lo, 10)
	h, _ := new(big.Int).SetString(hi, 10)
	return l.Cmp(h) > 0
}
