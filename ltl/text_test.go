package ltl_test

import (
	"fmt"
	"strings"
	"testing"

	"plumbline/api"
	"plumbline/ltl"
)

func TestP14_1Text(t *testing.T) {
	a, b, c := is("a", "1"), at("p", "a"), at("longer_name_20_bytes", "x_1")
	for _, x := range []struct {
		t    api.Tree
		want string
	}{
		{yes(), "true"}, {no(), "false"}, {a, "a = 1"}, {b, "@p.a"}, {c, "@longer_name_20_bytes.x_1"}, {cmp(sum(minus("", "x"), plus("2", "")), api.Le, sum(plus("3", "y"))), "-x + 2 <= 3*y"},
		{of(api.TNot, a), "!a = 1"}, {of(api.TNext, a), "X a = 1"}, {of(api.TAll, b), "G @p.a"}, {of(api.TSome, yes()), "F true"}, {of(api.TNot, of(api.TNext, of(api.TNot, of(api.TAll, of(api.TSome, a))))), "!X !G F a = 1"},
		{of(api.TAnd, a, b), "a = 1 & @p.a"}, {of(api.TOr, a, b), "a = 1 | @p.a"}, {of(api.TImp, a, b), "a = 1 -> @p.a"}, {of(api.TUntil, a, b), "a = 1 U @p.a"}, {of(api.TFree, a, b), "a = 1 R @p.a"},
		{of(api.TAll, of(api.TImp, cmp(sum(plus("", "x")), api.Gt, sum(plus("0", ""))), of(api.TSome, at("p", "b")))), "G (x > 0 -> F @p.b)"},
	} {
		expect(t, told(x.t), ltl.Text(x.t), x.want)
	}
}

// TestP14_1TextKids: each kind of kid in each kind of parent; "(" stands for a kid in
// parentheses.
func TestP14_1TextKids(t *testing.T) {
	texts := map[int]string{
		api.TTrue: "true", api.TFalse: "false", api.TCmp: "x = 1", api.TAt: "@p.a", api.TNot: "!true", api.TNext: "X true", api.TAll: "G true", api.TSome: "F true",
		api.TAnd: "true & false", api.TOr: "true | false", api.TImp: "true -> false", api.TUntil: "true U false", api.TFree: "true R false",
	}
	kids := map[int]api.Tree{api.TTrue: yes(), api.TFalse: no(), api.TCmp: is("x", "1"), api.TAt: at("p", "a")}
	for _, kind := range singles {
		kids[kind] = of(kind, yes())
	}
	for _, kind := range doubles {
		kids[kind] = of(kind, yes(), no())
	}
	const and, or, imp, until, free = api.TAnd, api.TOr, api.TImp, api.TUntil, api.TFree
	for _, x := range []struct {
		parent, i int
		text      string
		enclosed  []int
	}{
		{api.TNot, 0, "!_", []int{and, or, imp, until, free}}, {api.TNext, 0, "X _", []int{and, or, imp, until, free}}, {api.TAll, 0, "G _", []int{and, or, imp, until, free}}, {api.TSome, 0, "F _", []int{and, or, imp, until, free}},
		{and, 0, "_ & true", []int{or, imp}}, {and, 1, "true & _", []int{and, or, imp}}, {or, 0, "_ | true", []int{imp}}, {or, 1, "true | _", []int{or, imp}}, {imp, 0, "_ -> true", []int{imp}}, {imp, 1, "true -> _", nil},
		{until, 0, "_ U true", []int{and, or, imp, until, free}}, {until, 1, "true U _", []int{and, or, imp}}, {free, 0, "_ R true", []int{and, or, imp, until, free}}, {free, 1, "true R _", []int{and, or, imp}},
	} {
		for kind, kid := range kids {
			tree := of(x.parent, kid)
			if len(kids[x.parent].Kids) == 2 {
				tree = of(x.parent, yes(), yes())
				tree.Kids[x.i] = kid
			}
			text := texts[kind]
			for _, k := range x.enclosed {
				if k == kind {
					text = "(" + text + ")"
				}
			}
			expect(t, told(tree), ltl.Text(tree), strings.Replace(x.text, "_", text, 1))
			expect(t, told(tree), read(ltl.Text(tree)), told(tree))
		}
	}
}

// TestP14_2TextIsParsedBack: and it has no parentheses that could be left out.
func TestP14_2TextIsParsedBack(t *testing.T) {
	pairs := 0
	for _, tree := range append(trees(4000), justDeep()...) {
		text := ltl.Text(tree)
		expect(t, text, read(text), told(tree))
		for _, less := range without(text) {
			pairs++
			if read(less) == told(tree) {
				t.Errorf("%q needs not all parentheses", text)
			}
		}
	}
	if pairs < 3000 {
		t.Errorf("only %d pairs of parentheses", pairs)
	}
}

// without are the texts without one pair of parentheses.
func without(text string) []string {
	var all []string
	var open []int
	for i := range len(text) {
		switch text[i] {
		case '(':
			open = append(open, i)
		case ')':
			from := open[len(open)-1]
			open = open[:len(open)-1]
			all = append(all, text[:from]+text[from+1:i]+text[i+1:])
		}
	}
	return all
}

// TestP14_2UnknownIsPrinted: a property that is valid but not known has a text, which
// is parsed back in a system where it is known.
func TestP14_2UnknownIsPrinted(t *testing.T) {
	tree := of(api.TUntil, is("v", "1"), of(api.TNot, at("s", "t")))
	for _, c := range []struct {
		sys  api.Sys
		want string
	}{
		{api.Sys{}, "ErrName at 1:1"}, {system(), "ErrName at 1:1"}, {api.Sys{Vars: []string{"v"}}, "ErrName at 1:11"}, {api.Sys{Vars: []string{"v"}, Procs: []api.Proc{proc("s")}}, "ErrName at 1:13"},
		{api.Sys{Vars: []string{"v"}, Procs: []api.Proc{proc("t", "s"), proc("s", "u", "t")}}, told(tree)},
	} {
		if !ltl.Right(tree) {
			t.Error("not valid")
		}
		expect(t, told(c.sys), readIn(ltl.Text(tree), c.sys), c.want)
		f, atoms, ok := ltl.Resolve(tree, c.sys)
		if ok != (c.want == told(tree)) || !ok && fmt.Sprint(f, atoms) != fmt.Sprint(api.Ltl{}, []api.Prop{}) {
			t.Errorf("%v: %v, %v, %v", c.sys, f, atoms, ok)
		}
	}
}
