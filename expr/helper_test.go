package expr_test

import (
	"fmt"
	"math/big"
	"math/rand"
	"strings"
	"testing"

	"plumbline/api"
	"plumbline/expr"
	"plumbline/lex"
	"plumbline/zint"
)

func plus(num, name string) api.Mono { return api.Mono{Num: num, Var: name} }

func minus(num, name string) api.Mono { return api.Mono{Neg: true, Num: num, Var: name} }

func sum(ms ...api.Mono) []api.Mono { return ms }

// many is a sum of n times x.
func many(n int) []api.Mono {
	var ms []api.Mono
	for range n {
		ms = append(ms, plus("", "x"))
	}
	return ms
}

func cmp(l []api.Mono, op int, r []api.Mono) api.Tree {
	return api.Tree{Kind: api.TCmp, L: l, Op: op, R: r}
}

// is states that a variable equals a number.
func is(name, num string) api.Tree { return cmp(sum(plus("", name)), api.Eq, sum(plus(num, ""))) }

func of(kind int, kids ...api.Tree) api.Tree { return api.Tree{Kind: kind, Kids: kids} }

func yes() api.Tree { return of(api.TTrue) }

func no() api.Tree { return of(api.TFalse) }

func not(kid api.Tree) api.Tree { return of(api.TNot, kid) }

func and(l, r api.Tree) api.Tree { return of(api.TAnd, l, r) }

func or(l, r api.Tree) api.Tree { return of(api.TOr, l, r) }

// times applies a change n times.
func times(n int, t api.Tree, change func(api.Tree) api.Tree) api.Tree {
	for range n {
		t = change(t)
	}
	return t
}

// told tells all of a tree. A nil list counts as an empty one.
func told(t api.Tree) string {
	var text strings.Builder
	tell(&text, t)
	return text.String()
}

func tell(text *strings.Builder, t api.Tree) {
	fmt.Fprintf(text, "{%d", t.Kind)
	if !expr.Bare(t) || t.Kind == api.TCmp {
		fmt.Fprintf(text, " %s %d %s %q %q", toldSum(t.L), t.Op, toldSum(t.R), t.Proc, t.Loc)
	}
	for _, kid := range t.Kids {
		text.WriteString(" ")
		tell(text, kid)
	}
	text.WriteString("}")
}

// toldSum tells all of a sum.
func toldSum(ms []api.Mono) string {
	text := "["
	for _, m := range ms {
		text += fmt.Sprintf(" %v %q %q", m.Neg, m.Num, m.Var)
	}
	return text + "]"
}

var codes = map[api.Errno]string{
	api.OK: "OK", api.ErrArg: "ErrArg", api.ErrLong: "ErrLong", api.ErrMany: "ErrMany", api.ErrForm: "ErrForm",
	api.ErrSign: "ErrSign", api.ErrWant: "ErrWant", api.ErrDeep: "ErrDeep", api.ErrName: "ErrName", api.ErrRange: "ErrRange",
}

// wrong tells the error of a result, or that there is none, or that it is not as
// errors are to be: with zero values beside it.
func wrong(result string, none string, at api.Pos, e api.Errno) string {
	switch {
	case e == api.OK && at == api.Pos{}:
		return ""
	case e != api.OK && result == none:
		return fmt.Sprintf("%s at %d:%d", codes[e], at.Line, at.Col)
	}
	return fmt.Sprint("all at once: ", result, at, e)
}

// readCond tells all that ParseCond returns.
func readCond(s string) string {
	t, at, e := expr.ParseCond(s)
	if w := wrong(told(t), told(api.Tree{}), at, e); w != "" {
		return w
	}
	return told(t)
}

// readSum tells all that ParseSum returns.
func readSum(s string) string {
	ms, at, e := expr.ParseSum(s)
	if w := wrong(toldSum(ms), toldSum(nil), at, e); w != "" {
		return w
	}
	return toldSum(ms)
}

func expect(t *testing.T, what, got, want string) {
	t.Helper()
	if got != want {
		t.Errorf("%.300s:\n got %.600s\nwant %.600s", what, got, want)
	}
}

// tokens are those of a text without errors.
func tokens(s string) []lex.Token {
	ts, _, e := lex.All(s)
	if e != api.OK {
		panic("no tokens: " + s)
	}
	return ts
}

func one(r *rand.Rand, texts ...string) string { return texts[r.Intn(len(texts))] }

func randomSum(r *rand.Rand) []api.Mono {
	var ms []api.Mono
	for range 1 + r.Intn(4) {
		m := api.Mono{Neg: r.Intn(3) == 0, Num: one(r, "", "0", "1", "2", "3", "10", "123456789012345678901234567890")}
		if m.Num == "" || r.Intn(2) == 0 {
			m.Var = one(r, "x", "y", "z", "x1", "longer_name_20_bytes")
		}
		ms = append(ms, m)
	}
	return ms
}

// randomTree is a valid condition.
func randomTree(r *rand.Rand, depth int) api.Tree {
	switch n := r.Intn(12); {
	case n == 0:
		return of(r.Intn(2))
	case depth == 0 || n <= 2:
		return cmp(randomSum(r), r.Intn(6), randomSum(r))
	case n <= 5:
		return not(randomTree(r, depth-1))
	case n <= 8:
		return and(randomTree(r, depth-1), randomTree(r, depth-1))
	}
	return or(randomTree(r, depth-1), randomTree(r, depth-1))
}

// trees are valid conditions.
func trees(n int) []api.Tree {
	r := rand.New(rand.NewSource(11))
	var all []api.Tree
	for i := range n {
		all = append(all, randomTree(r, i%6))
	}
	return all
}

func printedSum(ms []api.Mono) string {
	text := ""
	for i, m := range ms {
		sign := " + "
		switch {
		case i == 0 && m.Neg:
			sign = "-"
		case i == 0:
			sign = ""
		case m.Neg:
			sign = " - "
		}
		text += sign + m.Num
		if m.Num != "" && m.Var != "" {
			text += "*"
		}
		text += m.Var
	}
	return text
}

// printed is what the document's words say of the text of a tree, valid or not.
func printed(t api.Tree) string {
	kid := func(i int, inParentheses ...int) string {
		if i >= len(t.Kids) {
			return "?"
		}
		for _, kind := range inParentheses {
			if t.Kids[i].Kind == kind {
				return "(" + printed(t.Kids[i]) + ")"
			}
		}
		return printed(t.Kids[i])
	}
	switch t.Kind {
	case api.TTrue:
		return "true"
	case api.TFalse:
		return "false"
	case api.TCmp:
		op := "?"
		if ops := []string{"=", "!=", "<", "<=", ">", ">="}; t.Op >= 0 && t.Op < len(ops) {
			op = ops[t.Op]
		}
		return printedSum(t.L) + " " + op + " " + printedSum(t.R)
	case api.TNot:
		return "!" + kid(0, api.TOr, api.TAnd)
	case api.TAnd:
		return kid(0, api.TOr) + " & " + kid(1, api.TOr, api.TAnd)
	case api.TOr:
		return kid(0) + " | " + kid(1, api.TOr)
	}
	return "?"
}

// value is what a sum is, with the names' values.
func value(ms []api.Mono, vals map[string]api.Int) *big.Int {
	total := new(big.Int)
	for _, m := range ms {
		n := big.NewInt(1)
		if m.Num != "" {
			n, _ = new(big.Int).SetString(m.Num, 10)
		}
		if m.Var != "" {
			val, _ := new(big.Int).SetString(zint.Text(vals[m.Var]), 10)
			n.Mul(n, val)
		}
		if m.Neg {
			n.Neg(n)
		}
		total.Add(total, n)
	}
	return total
}

// truth is whether a valid condition is true, with the names' values.
func truth(t api.Tree, vals map[string]api.Int) bool {
	switch t.Kind {
	case api.TCmp:
		c := value(t.L, vals).Cmp(value(t.R, vals))
		return []bool{c == 0, c != 0, c < 0, c <= 0, c > 0, c >= 0}[t.Op]
	case api.TNot:
		return !truth(t.Kids[0], vals)
	case api.TAnd:
		return truth(t.Kids[0], vals) && truth(t.Kids[1], vals)
	case api.TOr:
		return truth(t.Kids[0], vals) || truth(t.Kids[1], vals)
	}
	return t.Kind == api.TTrue
}
