package ltl_test

import (
	"fmt"
	"math/rand"
	"reflect"
	"strings"
	"testing"

	"plumbline/api"
	"plumbline/lex"
	"plumbline/ltl"
)

// told tells all of a value. A nil list counts as an empty one.
func told(v any) string {
	var text strings.Builder
	tell(&text, reflect.ValueOf(v))
	return text.String()
}

func tell(text *strings.Builder, v reflect.Value) {
	switch v.Kind() {
	case reflect.Struct:
		text.WriteString("{")
		for i := range v.NumField() {
			tell(text, v.Field(i))
		}
		text.WriteString("}")
	case reflect.Slice:
		text.WriteString("[")
		for i := range v.Len() {
			tell(text, v.Index(i))
		}
		text.WriteString("]")
	default:
		fmt.Fprintf(text, "%#v ", v)
	}
}

func expect(t *testing.T, what, got, want string) {
	t.Helper()
	if got != want {
		t.Errorf("%.600s:\n got %.1200s\nwant %.1200s", what, got, want)
	}
}

var codes = map[api.Errno]string{
	api.OK: "OK", api.ErrLong: "ErrLong", api.ErrMany: "ErrMany", api.ErrForm: "ErrForm", api.ErrSign: "ErrSign", api.ErrWant: "ErrWant",
	api.ErrDeep: "ErrDeep", api.ErrName: "ErrName",
}

// system has two processes that are called p, of which the first one counts.
func system() api.Sys {
	return api.Sys{
		Vars:  []string{"x", "y", "z", "p", "longer_name_20_bytes"},
		Procs: []api.Proc{proc("p", "a", "b", "x"), proc("q", "b", "c", "q", "b"), proc("p", "d", "a"), proc("r"), proc("init", "a"), proc("", "")},
	}
}

func proc(name string, locs ...string) api.Proc { return api.Proc{Name: name, Locs: locs} }

// read tells all that Parse returns with the system: the tree, or the error.
func read(s string) string { return readIn(s, system()) }

func readIn(s string, sys api.Sys) string {
	tree, at, e := ltl.Parse(s, sys)
	switch {
	case e == api.OK && at == api.Pos{}:
		return told(tree)
	case e != api.OK && reflect.DeepEqual(tree, api.Tree{}):
		return fmt.Sprintf("%s at %d:%d", codes[e], at.Line, at.Col)
	}
	return fmt.Sprint("all at once: ", told(tree), at, e)
}

// tokens are those of a text without errors.
func tokens(s string) []lex.Token {
	ts, _, e := lex.All(s)
	if e != api.OK {
		panic("no tokens: " + s)
	}
	return ts
}

func plus(num, name string) api.Mono { return api.Mono{Num: num, Var: name} }

func minus(num, name string) api.Mono { return api.Mono{Neg: true, Num: num, Var: name} }

func sum(ms ...api.Mono) []api.Mono { return ms }

// many is a sum of n times x.
func many(n int) []api.Mono {
	var ms []api.Mono
	for range n {
		ms = append(ms, plus("", "x"))
	}
	return ms
}

func cmp(l []api.Mono, op int, r []api.Mono) api.Tree {
	return api.Tree{Kind: api.TCmp, L: l, Op: op, R: r}
}

// is states that a variable equals a number.
func is(name, num string) api.Tree { return cmp(sum(plus("", name)), api.Eq, sum(plus(num, ""))) }

func at(proc, loc string) api.Tree { return api.Tree{Kind: api.TAt, Proc: proc, Loc: loc} }

func of(kind int, kids ...api.Tree) api.Tree { return api.Tree{Kind: kind, Kids: kids} }

func yes() api.Tree { return of(api.TTrue) }

func no() api.Tree { return of(api.TFalse) }

// times applies a change n times.
func times(n int, t api.Tree, change func(api.Tree) api.Tree) api.Tree {
	for range n {
		t = change(t)
	}
	return t
}

// above is t with n kinds of one kid above it.
func above(n, kind int, t api.Tree) api.Tree {
	return times(n, t, func(t api.Tree) api.Tree { return of(kind, t) })
}

var (
	singles = []int{api.TNot, api.TNext, api.TAll, api.TSome}
	doubles = []int{api.TAnd, api.TOr, api.TImp, api.TUntil, api.TFree}
)

func one[T any](r *rand.Rand, all ...T) T { return all[r.Intn(len(all))] }

func randomSum(r *rand.Rand) []api.Mono {
	var ms []api.Mono
	for range 1 + r.Intn(3) {
		m := api.Mono{Neg: r.Intn(3) == 0, Num: one(r, "", "0", "1", "2", "3", "123456789012345678901234567890")}
		if m.Num == "" || r.Intn(2) == 0 {
			m.Var = one(r, system().Vars...)
		}
		ms = append(ms, m)
	}
	return ms
}

// randomTree is a valid property that is known in the system.
func randomTree(r *rand.Rand, depth int) api.Tree {
	switch n := r.Intn(16); {
	case n == 0:
		return of(r.Intn(2))
	case n == 1 || depth == 0 && r.Intn(3) == 0:
		return one(r, at("p", "a"), at("p", "b"), at("q", "b"), at("q", "q"))
	case depth == 0 && r.Intn(2) == 0:
		return is(one(r, "x", "y"), one(r, "1", "2"))
	case depth == 0 || n == 2:
		return cmp(randomSum(r), r.Intn(6), randomSum(r))
	case n < 8:
		return of(one(r, singles...), randomTree(r, depth-1))
	}
	return of(one(r, doubles...), randomTree(r, depth-1), randomTree(r, depth-1))
}

// trees are valid properties that are known in the system.
func trees(n int) []api.Tree {
	r := rand.New(rand.NewSource(14))
	var all []api.Tree
	for i := range n {
		all = append(all, randomTree(r, i%6))
	}
	return all
}

func printedSum(ms []api.Mono) string {
	text := ""
	for i, m := range ms {
		switch {
		case m.Neg && i == 0:
			text += "-"
		case m.Neg:
			text += " - "
		case i > 0:
			text += " + "
		}
		text += m.Num
		if m.Num != "" && m.Var != "" {
			text += "*"
		}
		text += m.Var
	}
	return text
}

// printed is what the document's words say of the text of a tree, valid or not.
func printed(t api.Tree) string {
	kid := func(i int, inParentheses ...int) string {
		if i >= len(t.Kids) {
			return "?"
		}
		for _, kind := range inParentheses {
			if t.Kids[i].Kind == kind {
				return "(" + printed(t.Kids[i]) + ")"
			}
		}
		return printed(t.Kids[i])
	}
	const imp, or, and, until, free = api.TImp, api.TOr, api.TAnd, api.TUntil, api.TFree
	switch t.Kind {
	case api.TTrue:
		return "true"
	case api.TFalse:
		return "false"
	case api.TCmp:
		op := "?"
		if ops := []string{"=", "!=", "<", "<=", ">", ">="}; t.Op >= 0 && t.Op < len(ops) {
			op = ops[t.Op]
		}
		return printedSum(t.L) + " " + op + " " + printedSum(t.R)
	case api.TAt:
		return "@" + t.Proc + "." + t.Loc
	case api.TNot:
		return "!" + kid(0, imp, or, and, until, free)
	case api.TNext:
		return "X " + kid(0, imp, or, and, until, free)
	case api.TAll:
		return "G " + kid(0, imp, or, and, until, free)
	case api.TSome:
		return "F " + kid(0, imp, or, and, until, free)
	case api.TAnd:
		return kid(0, imp, or) + " & " + kid(1, imp, or, and)
	case api.TOr:
		return kid(0, imp) + " | " + kid(1, imp, or)
	case api.TImp:
		return kid(0, imp) + " -> " + kid(1)
	case api.TUntil:
		return kid(0, imp, or, and, until, free) + " U " + kid(1, imp, or, and)
	case api.TFree:
		return kid(0, imp, or, and, until, free) + " R " + kid(1, imp, or, and)
	}
	return "?"
}
