package expr_test

import (
	"fmt"
	"math/big"
	"math/rand"
	"strings"
	"testing"

	"plumbline/api"
	"plumbline/expr"
	"plumbline/logic"
	"plumbline/term"
	"plumbline/zint"
)

// names are those of trees, and one of them twice.
var names = []string{"y", "x", "z", "x", "q", "x1", "", "longer_name_20_bytes", "y"}

// numberOf is the first index in names.
func numberOf(name string) int {
	for i, n := range names {
		if n == name {
			return i
		}
	}
	panic("no name " + name)
}

func number(n *big.Int) api.Int {
	i, e := zint.Parse(n.String())
	if e != api.OK {
		panic(n.String())
	}
	return i
}

// termOf is the term of a sum, by other means.
func termOf(ms []api.Mono) api.Term {
	zero := map[string]api.Int{}
	t := term.Number(number(value(ms, zero)))
	for _, name := range []string{"y", "x", "z", "x1", "longer_name_20_bytes"} {
		c := new(big.Int).Sub(value(ms, map[string]api.Int{name: zint.Of(1)}), value(ms, zero))
		t = term.Add(t, term.Scale(term.Var(numberOf(name)), number(c)))
	}
	return t
}

// formOf is what the document's words say of Form.
func formOf(t api.Tree) api.Form {
	switch t.Kind {
	case api.TTrue:
		return logic.Truth(true)
	case api.TFalse:
		return logic.Truth(false)
	case api.TCmp:
		return logic.Compare(t.Op, termOf(t.L), termOf(t.R))
	case api.TNot:
		return logic.Deny(formOf(t.Kids[0]))
	case api.TAnd:
		return logic.All(formOf(t.Kids[0]), formOf(t.Kids[1]))
	}
	return logic.Any(formOf(t.Kids[0]), formOf(t.Kids[1]))
}

func TestP11_1Term(t *testing.T) {
	huge := strings.Repeat("9", 60)
	for _, c := range []struct{ s, want string }{
		{"x", "x"}, {"-x", "-x"}, {"7", "7"}, {"-7", "-7"}, {"-0", "0"}, {"0*x", "0"}, {"3*x + 2 - y", "-y + 3*x + 2"}, {"x - x", "0"}, {"x + x - 5*x + 1 - 4", "-3*x - 3"}, {"1*x", "x"},
		{huge + "*x + " + huge + "*x - " + huge, "1" + huge[1:] + "8*x - " + huge},
	} {
		ms, _, e := expr.ParseSum(c.s)
		got, ok := expr.Term(ms, []string{"y", "x"})
		if e != api.OK || !ok {
			t.Errorf("Term of %s: %d, %v", c.s, e, ok)
		}
		expect(t, c.s, term.Text(got, []string{"y", "x"}), c.want)
		expect(t, c.s, fmt.Sprint(term.Plain(got)), fmt.Sprint(got))
	}
	ms := many(64)
	got, ok := expr.Term(ms, []string{"x"})
	expect(t, "64 monos", fmt.Sprint(term.Text(got, nil), " ", ok), "64*v0 true")
}

func TestP11_1TermOfNames(t *testing.T) {
	ms := sum(plus("2", "x"), minus("", "y"), plus("1", ""))
	for _, c := range []struct {
		vars []string
		want string
	}{
		{[]string{"x", "y"}, "2*v0 - v1 + 1 true"}, {[]string{"y", "x"}, "-v0 + 2*v1 + 1 true"}, {[]string{"", "y", "y", "a b", "x", "x", "y"}, "-v1 + 2*v4 + 1 true"},
		{[]string{"x"}, "0 false"}, {[]string{"y"}, "0 false"}, {nil, "0 false"}, {[]string{"x ", "X", "xy", "y"}, "0 false"},
	} {
		got, ok := expr.Term(ms, c.vars)
		expect(t, fmt.Sprint(c.vars), fmt.Sprint(term.Text(got, nil), " ", ok), c.want)
	}
	got, ok := expr.Term(sum(plus("5", "")), nil)
	expect(t, "5", fmt.Sprint(term.Text(got, nil), " ", ok), "5 true")
	// a name counts also if it is multiplied by 0, or adds to 0
	for _, s := range []string{"0*x", "x - x"} {
		ms, _, _ := expr.ParseSum(s)
		got, ok := expr.Term(ms, []string{"y"})
		expect(t, s, fmt.Sprint(got, ok), fmt.Sprint(api.Term{}, false))
	}
}

func TestP11_1FormOfNames(t *testing.T) {
	tree := or(is("x", "1"), not(and(yes(), is("y", "2"))))
	for _, vars := range [][]string{nil, {"x"}, {"y"}, {"x", "Y"}, {"x", ""}} {
		got, ok := expr.Form(tree, vars)
		expect(t, fmt.Sprint(vars), fmt.Sprint(got, ok), fmt.Sprint(api.Form{Kind: api.False}, false))
	}
	got, ok := expr.Form(tree, []string{"a", "y", "x", "y"})
	expect(t, "both", fmt.Sprint(logic.Text(got, nil), " ", ok), "(v2 - 1 = 0 | !((true & v1 - 2 = 0))) true")
	for _, c := range []api.Tree{yes(), no(), not(no()), cmp(sum(plus("1", "")), api.Lt, sum(plus("2", "")))} {
		got, ok := expr.Form(c, nil)
		expect(t, told(c), fmt.Sprint(got, ok), fmt.Sprint(formOf(c), true))
	}
	for _, side := range []api.Tree{cmp(many(1), api.Eq, sum(plus("", "q"))), cmp(sum(plus("", "q")), api.Eq, many(1))} {
		got, ok := expr.Form(side, []string{"x"})
		expect(t, told(side), fmt.Sprint(got, ok), fmt.Sprint(api.Form{Kind: api.False}, false))
	}
}

func TestP11_1FormByRules(t *testing.T) {
	for _, tree := range trees(4000) {
		got, ok := expr.Form(tree, names)
		expect(t, told(tree), fmt.Sprint(got, ok), fmt.Sprint(formOf(tree), true))
		if tree.Kind == api.TCmp {
			got, ok := expr.Term(tree.L, names)
			expect(t, told(tree), fmt.Sprint(got, ok), fmt.Sprint(termOf(tree.L), true))
		}
	}
}

// TestP11_3Truth: at some values, the formula holds exactly if the condition is true.
func TestP11_3Truth(t *testing.T) {
	r := rand.New(rand.NewSource(3))
	counts := map[bool]int{}
	for i, tree := range trees(3000) {
		f, ok := expr.Form(tree, names)
		if !ok {
			t.Errorf("no formula of %s", told(tree))
		}
		for range 6 {
			vals := make([]api.Int, len(names))
			of := map[string]api.Int{}
			for v, name := range names {
				vals[v] = zint.Of(r.Int63n(9) - 4)
				if v == numberOf(name) {
					of[name] = vals[v]
				}
			}
			want := truth(tree, of)
			if logic.Holds(f, vals) != want {
				t.Errorf("%s at %v is %v", told(tree), of, want)
			}
			if i%6 != 0 {
				counts[want]++
			}
		}
	}
	if counts[true] < 5000 || counts[false] < 5000 {
		t.Errorf("%v", counts)
	}
}

// TestP11_3Operators: each comparison of numbers around the one compared with.
func TestP11_3Operators(t *testing.T) {
	for op, want := range map[int]string{api.Eq: "010", api.Ne: "101", api.Lt: "100", api.Le: "110", api.Gt: "001", api.Ge: "011"} {
		f, _ := expr.Form(cmp(sum(plus("2", "x")), op, sum(plus("6", ""))), []string{"x"})
		got := ""
		for _, x := range []int64{2, 3, 4} {
			got += map[bool]string{true: "1", false: "0"}[logic.Holds(f, []api.Int{zint.Of(x)})]
		}
		expect(t, fmt.Sprint("operator ", op), got, want)
	}
}
