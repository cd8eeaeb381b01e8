package model_test

import (
	"fmt"
	"math/rand"
	"reflect"
	"strings"
	"testing"

	"plumbline/api"
	"plumbline/lex"
	"plumbline/model"
)

// told tells all of a value. A nil list counts as an empty one.
func told(v any) string { return tell(reflect.ValueOf(v)) }

func tell(v reflect.Value) string {
	var parts []string
	switch v.Kind() {
	case reflect.Struct:
		for i := range v.NumField() {
			parts = append(parts, tell(v.Field(i)))
		}
		return "{" + strings.Join(parts, " ") + "}"
	case reflect.Slice:
		for i := range v.Len() {
			parts = append(parts, tell(v.Index(i)))
		}
		return "[" + strings.Join(parts, " ") + "]"
	}
	return fmt.Sprintf("%#v", v)
}

var codes = map[api.Errno]string{
	api.OK: "OK", api.ErrLong: "ErrLong", api.ErrMany: "ErrMany", api.ErrForm: "ErrForm", api.ErrSign: "ErrSign", api.ErrWant: "ErrWant",
	api.ErrDeep: "ErrDeep", api.ErrName: "ErrName", api.ErrSame: "ErrSame", api.ErrRange: "ErrRange",
}

// read tells all that Parse returns: the model, or the error.
func read(s string) string {
	m, at, e := model.Parse(s)
	switch {
	case e == api.OK && at == api.Pos{}:
		return told(m)
	case e != api.OK && reflect.DeepEqual(m, api.Model{}):
		return fmt.Sprintf("%s at %d:%d", codes[e], at.Line, at.Col)
	}
	return fmt.Sprint("all at once: ", told(m), at, e)
}

func expect(t *testing.T, what, got, want string) {
	t.Helper()
	if got != want {
		t.Errorf("%.600s:\n got %.1200s\nwant %.1200s", what, got, want)
	}
}

func plus(num, name string) api.Mono { return api.Mono{Num: num, Var: name} }

func minus(num, name string) api.Mono { return api.Mono{Neg: true, Num: num, Var: name} }

func sum(ms ...api.Mono) []api.Mono { return ms }

// many is a sum of n times x.
func many(n int) []api.Mono {
	var ms []api.Mono
	for range n {
		ms = append(ms, plus("", "x"))
	}
	return ms
}

func cmp(l []api.Mono, op int, r []api.Mono) api.Tree {
	return api.Tree{Kind: api.TCmp, L: l, Op: op, R: r}
}

// is states that a variable equals a number.
func is(name, num string) api.Tree { return cmp(sum(plus("", name)), api.Eq, sum(plus(num, ""))) }

func of(kind int, kids ...api.Tree) api.Tree { return api.Tree{Kind: kind, Kids: kids} }

// denied is a tree with n levels of "!".
func denied(n int, t api.Tree) api.Tree {
	for range n {
		t = of(api.TNot, t)
	}
	return t
}

// decl declares variables, with the integers lo and hi if they are given.
func decl(names string, ranged ...string) api.Decl {
	d := api.Decl{Names: strings.Fields(names)}
	if len(ranged) > 0 {
		d.Ranged, d.Lo, d.Hi = true, ranged[0], ranged[1]
	}
	return d
}

func proc(name, locs string, cmds ...api.Cmd) api.Proc {
	return api.Proc{Name: name, Locs: strings.Fields(locs), Cmds: cmds}
}

func cmd(from, to string, guard api.Tree, sets ...api.Set) api.Cmd {
	return api.Cmd{From: from, To: to, Guard: guard, Sets: sets}
}

func set(name string, ms ...api.Mono) api.Set { return api.Set{Var: name, E: ms} }

func free(name string) api.Set { return api.Set{Var: name, Any: true} }

// least is "init true; proc p loc a; end".
func least() api.Model { return api.Model{Procs: []api.Proc{proc("p", "a")}} }

// counted are n different names.
func counted(n int, prefix string) []string {
	var names []string
	for i := range n {
		names = append(names, fmt.Sprint(prefix, i))
	}
	return names
}

// times are n texts, with "%d" in them replaced by 0, 1, 2 and so on.
func times(n int, text string) string {
	all := ""
	for i := range n {
		all += strings.ReplaceAll(text, "%d", fmt.Sprint(i))
	}
	return all
}

func printedSum(ms []api.Mono) string {
	text := ""
	for i, m := range ms {
		switch {
		case m.Neg && i == 0:
			text += "-"
		case m.Neg:
			text += " - "
		case i > 0:
			text += " + "
		}
		text += m.Num
		if m.Num != "" && m.Var != "" {
			text += "*"
		}
		text += m.Var
	}
	return text
}

// printedTree is what chapter 11 says of the text of a tree, valid or not.
func printedTree(t api.Tree) string {
	kid := func(i int, inParentheses ...int) string {
		if i >= len(t.Kids) {
			return "?"
		}
		for _, kind := range inParentheses {
			if t.Kids[i].Kind == kind {
				return "(" + printedTree(t.Kids[i]) + ")"
			}
		}
		return printedTree(t.Kids[i])
	}
	switch t.Kind {
	case api.TTrue:
		return "true"
	case api.TFalse:
		return "false"
	case api.TCmp:
		op := "?"
		if ops := []string{"=", "!=", "<", "<=", ">", ">="}; t.Op >= 0 && t.Op < len(ops) {
			op = ops[t.Op]
		}
		return printedSum(t.L) + " " + op + " " + printedSum(t.R)
	case api.TNot:
		return "!" + kid(0, api.TOr, api.TAnd)
	case api.TAnd:
		return kid(0, api.TOr) + " & " + kid(1, api.TOr, api.TAnd)
	case api.TOr:
		return kid(0) + " | " + kid(1, api.TOr)
	}
	return "?"
}

// printed is a text of a model by the grammar, valid or not. It says all that a text
// can say: also what is wrong.
func printed(m api.Model) string {
	text := ""
	for _, d := range m.Decls {
		text += "var " + strings.Join(d.Names, ", ")
		if d.Ranged || d.Lo+d.Hi != "" {
			text += " in " + d.Lo + " .. " + d.Hi
		}
		text += ";\n"
	}
	text += "init " + printedTree(m.Init) + ";\n"
	for _, p := range m.Procs {
		text += "proc " + p.Name + " loc " + strings.Join(p.Locs, ", ") + ";\n"
		for _, c := range p.Cmds {
			text += c.From + " -> " + c.To + printedRest(c) + ";\n"
		}
		text += "end\n"
	}
	return text
}

func printedRest(c api.Cmd) string {
	text := ""
	if told(c.Guard) != told(api.Tree{}) {
		text += " : " + printedTree(c.Guard)
	}
	for i, s := range c.Sets {
		text += []string{" / ", ", "}[min(i, 1)] + s.Var + " := "
		if s.Any {
			text += "*" + printedSum(s.E)
		} else {
			text += printedSum(s.E)
		}
	}
	return text
}

// tokens are those of a text without errors of layer 10.
func tokens(s string) []lex.Token {
	ts, _, e := lex.All(s)
	if e != api.OK {
		panic(fmt.Sprint("no tokens: ", e, s))
	}
	return ts
}

func one[T any](r *rand.Rand, all ...T) T { return all[r.Intn(len(all))] }

// pool are names for all uses, so that a variable, a process and a location often
// have the same.
var pool = []string{"a", "b", "p", "x", "y", "z", "in_", "trues", "x1", "x_1", "i", "end0", "longer_name_20_bytes", "q", "r", "s", "u", "v", "w", "o"}

// some are n names of the pool.
func some(r *rand.Rand, n int) []string {
	var names []string
	for _, i := range r.Perm(len(pool))[:n] {
		names = append(names, pool[i])
	}
	return names
}

// size is at most most, and most often less than 4.
func size(r *rand.Rand, least, most int) int {
	switch r.Intn(12) {
	case 0:
		return most
	case 1:
		return least + r.Intn(most-least+1)
	}
	return least + r.Intn(min(most-least, 3)+1)
}

func randomSum(r *rand.Rand, vars []string) []api.Mono {
	var ms []api.Mono
	for range 1 + r.Intn(3) {
		m := api.Mono{Neg: r.Intn(3) == 0, Num: one(r, "", "", "0", "1", "2", "10", "123456789012345678901234567890")}
		if len(vars) > 0 && (m.Num == "" || r.Intn(2) == 0) {
			m.Var = one(r, vars...)
		} else if m.Num == "" {
			m.Num = "7"
		}
		ms = append(ms, m)
	}
	return ms
}

func randomTree(r *rand.Rand, vars []string, depth int) api.Tree {
	switch n := r.Intn(12); {
	case n == 0:
		return of(r.Intn(2))
	case depth == 0 || n <= 2:
		return cmp(randomSum(r, vars), r.Intn(6), randomSum(r, vars))
	case n <= 5:
		return of(api.TNot, randomTree(r, vars, depth-1))
	case n <= 8:
		return of(api.TAnd, randomTree(r, vars, depth-1), randomTree(r, vars, depth-1))
	}
	return of(api.TOr, randomTree(r, vars, depth-1), randomTree(r, vars, depth-1))
}

func randomDecls(r *rand.Rand, vars []string) []api.Decl {
	var ds []api.Decl
	for len(vars) > 0 {
		n := size(r, 1, len(vars))
		d := api.Decl{Names: append([]string(nil), vars[:n]...), Ranged: r.Intn(2) == 0}
		if d.Ranged {
			d.Lo = one(r, "-3", "-0", "0", "-12345678901234567890")
			d.Hi = one(r, "0", "1", "12345678901234567890")
		}
		ds, vars = append(ds, d), vars[n:]
	}
	return ds
}

func randomProc(r *rand.Rand, name string, vars []string) api.Proc {
	p := api.Proc{Name: name, Locs: some(r, size(r, 1, 16))}
	for range size(r, 0, 32) {
		c := api.Cmd{From: one(r, p.Locs...), To: one(r, p.Locs...)}
		if r.Intn(2) == 0 {
			c.Guard = randomTree(r, vars, r.Intn(3))
		}
		for _, i := range r.Perm(len(vars))[:min(len(vars), r.Intn(4))] {
			if r.Intn(3) == 0 {
				c.Sets = append(c.Sets, free(vars[i]))
			} else {
				c.Sets = append(c.Sets, set(vars[i], randomSum(r, vars)...))
			}
		}
		p.Cmds = append(p.Cmds, c)
	}
	return p
}

// randomModel is valid.
func randomModel(r *rand.Rand) api.Model {
	vars := some(r, size(r, 0, 16))
	m := api.Model{Decls: randomDecls(r, vars), Init: randomTree(r, vars, r.Intn(4))}
	for _, name := range some(r, size(r, 1, 8)) {
		m.Procs = append(m.Procs, randomProc(r, name, vars))
	}
	return m
}

// models are valid, and their texts are not too long.
func models(n int) []api.Model {
	r := rand.New(rand.NewSource(12))
	var all []api.Model
	for len(all) < n {
		if m := randomModel(r); len(printed(m)) < 10000 {
			all = append(all, m)
		}
	}
	return all
}
