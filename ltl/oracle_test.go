package ltl_test

import (
	"fmt"
	"slices"
	"strings"

	"plumbline/api"
	"plumbline/lex"
)

// grammar is that of chapters 14 and 11, without repetitions. A lower-case word that
// is not a rule is a token; what stands behind "'" tells the use of the token. A level
// lasts until END is taken off the stack.
const grammar = `
whole = prop $
prop  = or imp
imp   = | -> prop
or    = and ors
ors   = | PIPE and ors
and   = bin ands
ands  = | & bin ands
bin   = un bins
bins  = | U bin | R bin
un    = !'level un END | X'level un END | G'level un END | F'level un END | ('level prop ) END | true | false | @ name'proc . name'loc | sum cmp sum
cmp   = = | != | < | <= | > | >=
sum   = mono monos | - mono monos
monos = | + mono monos | - mono monos
mono  = number'mono times | name'mono
times = | * name'factor
`

// rules are the alternatives of each rule of the grammar.
var rules = func() map[string][][]string {
	all := map[string][][]string{"END": {{}}}
	for _, line := range strings.Split(strings.TrimSpace(grammar), "\n") {
		name, right, _ := strings.Cut(line, "=")
		for _, alternative := range strings.Split(right, "|") {
			all[strings.TrimSpace(name)] = append(all[strings.TrimSpace(name)], strings.Fields(alternative))
		}
	}
	return all
}()

// next are the stacks that begin with a token, for a stack that may begin with a rule.
func next(stack []string) [][]string {
	alternatives, isRule := rules[stack[0]]
	if !isRule {
		return [][]string{stack}
	}
	var all [][]string
	for _, a := range alternatives {
		all = append(all, next(slices.Concat(a, stack[1:]))...)
	}
	return all
}

// class is what a token is in the grammar.
func class(t lex.Token) string {
	switch {
	case t.Kind == lex.End:
		return "$"
	case t.Kind == lex.Num:
		return "number"
	case t.Kind == lex.Word && !lex.Reserved(t.Text):
		return "name"
	case t.Text == "|":
		return "PIPE"
	}
	return t.Text
}

// use is the use of a token, and the number of levels that are open behind it.
type use struct {
	name   string
	levels int
}

// uses are those of the tokens up to the first with which no valid text can continue:
// all stacks of what may follow are tried side by side.
func uses(ts []lex.Token) []use {
	var all []use
	stack := []string{"whole"}
	for _, t := range ts {
		var left [][]string
		var u use
		for _, n := range next(stack) {
			token, name, _ := strings.Cut(n[0], "'")
			if token == class(t) {
				left, u = append(left, n[1:]), use{name: name}
			}
		}
		switch len(left) {
		case 0:
			return all
		case 1:
		default:
			panic("two ways to read " + t.Text)
		}
		stack = left[0]
		for _, s := range stack {
			if s == "END" {
				u.levels++
			}
		}
		all = append(all, u)
	}
	return all
}

// first tells the error of a text without errors of layer 10, or "".
func first(ts []lex.Token, sys api.Sys) string {
	told := func(code string, t lex.Token) string { return fmt.Sprintf("%s at %d:%d", code, t.At.Line, t.At.Col) }
	monos := 0
	var locs []string
	all := uses(ts)
	for i, u := range all {
		switch {
		case u.name == "mono":
			monos++
		case u.name != "factor" && !slices.Contains([]string{"+", "-", "*"}, ts[i].Text):
			monos = 0
		}
		switch {
		case monos > 64:
			return told("ErrMany", ts[i])
		case u.name == "level" && u.levels > 60:
			return told("ErrDeep", ts[i])
		case (u.name == "mono" || u.name == "factor") && class(ts[i]) == "name" && !slices.Contains(sys.Vars, ts[i].Text):
			return told("ErrName", ts[i])
		case u.name == "proc":
			p := slices.IndexFunc(sys.Procs, func(p api.Proc) bool { return p.Name == ts[i].Text })
			if p < 0 {
				return told("ErrName", ts[i])
			}
			locs = sys.Procs[p].Locs
		case u.name == "loc" && !slices.Contains(locs, ts[i].Text):
			return told("ErrName", ts[i])
		}
	}
	if len(all) < len(ts) {
		return told("ErrWant", ts[len(all)])
	}
	return ""
}

// split returns what is before and behind the first or the last of some signs outside
// of parentheses, and the sign.
func split(ts []lex.Token, last bool, signs ...string) (l, r []lex.Token, sign string) {
	open := 0
	for i, t := range ts {
		switch {
		case t.Text == "(":
			open++
		case t.Text == ")":
			open--
		case open == 0 && slices.Contains(signs, t.Text) && (last || sign == ""):
			l, r, sign = ts[:i], ts[i+1:], t.Text
		}
	}
	return l, r, sign
}

// tree is the tree of tokens, without End, that have no errors.
func tree(ts []lex.Token) api.Tree {
	if l, r, sign := split(ts, false, "->"); sign != "" {
		return of(api.TImp, tree(l), tree(r))
	}
	if l, r, sign := split(ts, true, "|"); sign != "" {
		return of(api.TOr, tree(l), tree(r))
	}
	if l, r, sign := split(ts, true, "&"); sign != "" {
		return of(api.TAnd, tree(l), tree(r))
	}
	if l, r, sign := split(ts, false, "U", "R"); sign != "" {
		return of(map[string]int{"U": api.TUntil, "R": api.TFree}[sign], tree(l), tree(r))
	}
	switch text := ts[0].Text; text {
	case "!", "X", "G", "F":
		return of(map[string]int{"!": api.TNot, "X": api.TNext, "G": api.TAll, "F": api.TSome}[text], tree(ts[1:]))
	case "(":
		return tree(ts[1 : len(ts)-1])
	case "true", "false":
		return of(map[string]int{"true": api.TTrue, "false": api.TFalse}[text])
	case "@":
		return at(ts[1].Text, ts[3].Text)
	}
	operators := []string{"=", "!=", "<", "<=", ">", ">="}
	l, r, sign := split(ts, false, operators...)
	return cmp(monos(l), slices.Index(operators, sign), monos(r))
}

// monos is the sum of tokens.
func monos(ts []lex.Token) []api.Mono {
	var ms []api.Mono
	neg, begins := false, true
	for _, t := range ts {
		if begins && t.Text != "-" {
			ms = append(ms, api.Mono{Neg: neg})
			begins = false
		}
		switch {
		case t.Text == "+" || t.Text == "-":
			neg, begins = t.Text == "-", true
		case t.Kind == lex.Num:
			ms[len(ms)-1].Num = t.Text
		case t.Kind == lex.Word:
			ms[len(ms)-1].Var = t.Text
		}
	}
	return ms
}

// wanted tells what Parse is to return for a text without errors of layer 10.
func wanted(s string, sys api.Sys) string {
	ts := tokens(s)
	if e := first(ts, sys); e != "" {
		return e
	}
	return told(tree(ts[:len(ts)-1]))
}
