package expr_test

import (
	"math/rand"
	"strings"
	"testing"

	"plumbline/api"
	"plumbline/expr"
)

func TestP11_1SumText(t *testing.T) {
	for _, c := range []struct {
		ms   []api.Mono
		want string
	}{
		{sum(plus("", "x")), "x"}, {sum(minus("", "x")), "-x"}, {sum(plus("7", "")), "7"}, {sum(minus("7", "")), "-7"}, {sum(minus("0", "")), "-0"}, {sum(plus("1", "x")), "1*x"}, {sum(minus("2", "x")), "-2*x"},
		{sum(plus("", "x"), plus("2", "")), "x + 2"}, {sum(plus("", "x"), minus("2", "")), "x - 2"}, {sum(minus("3", "x"), minus("", "y"), plus("0", "z"), plus("10", "")), "-3*x - y + 0*z + 10"},
		{sum(minus("1", ""), minus("1", "")), "-1 - 1"}, {many(3), "x + x + x"},
	} {
		expect(t, toldSum(c.ms), expr.SumText(c.ms), c.want)
	}
}

func TestP11_1Text(t *testing.T) {
	a, b, c := is("a", "1"), is("b", "2"), is("c", "3")
	for _, x := range []struct {
		t    api.Tree
		want string
	}{
		{yes(), "true"}, {no(), "false"}, {a, "a = 1"}, {cmp(sum(minus("", "x"), plus("2", "")), api.Le, sum(plus("3", "y"))), "-x + 2 <= 3*y"},
		{not(a), "!a = 1"}, {not(not(a)), "!!a = 1"}, {not(yes()), "!true"}, {not(cmp(sum(minus("", "x")), api.Ne, sum(minus("1", "")))), "!-x != -1"},
		{not(and(a, b)), "!(a = 1 & b = 2)"}, {not(or(a, b)), "!(a = 1 | b = 2)"}, {not(not(or(a, b))), "!!(a = 1 | b = 2)"},
		{and(a, b), "a = 1 & b = 2"}, {or(a, b), "a = 1 | b = 2"}, {and(not(a), not(b)), "!a = 1 & !b = 2"}, {or(not(a), no()), "!a = 1 | false"},
		{and(and(a, b), c), "a = 1 & b = 2 & c = 3"}, {and(a, and(b, c)), "a = 1 & (b = 2 & c = 3)"}, {or(or(a, b), c), "a = 1 | b = 2 | c = 3"}, {or(a, or(b, c)), "a = 1 | (b = 2 | c = 3)"},
		{and(or(a, b), c), "(a = 1 | b = 2) & c = 3"}, {and(a, or(b, c)), "a = 1 & (b = 2 | c = 3)"}, {or(and(a, b), c), "a = 1 & b = 2 | c = 3"}, {or(a, and(b, c)), "a = 1 | b = 2 & c = 3"},
		{and(and(a, b), and(b, c)), "a = 1 & b = 2 & (b = 2 & c = 3)"}, {or(and(a, b), or(b, c)), "a = 1 & b = 2 | (b = 2 | c = 3)"}, {and(or(a, b), or(b, c)), "(a = 1 | b = 2) & (b = 2 | c = 3)"},
	} {
		expect(t, told(x.t), expr.Text(x.t), x.want)
	}
}

// TestP11_2TextIsParsedBack: and it has no parentheses that could be left out.
func TestP11_2TextIsParsedBack(t *testing.T) {
	pairs := 0
	for _, tree := range append(trees(4000), justDeep()...) {
		text := expr.Text(tree)
		expect(t, text, readCond(text), told(tree))
		for _, less := range without(text) {
			pairs++
			if got := readCond(less); got == told(tree) {
				t.Errorf("%q needs not all parentheses", text)
			}
		}
		if tree.Kind == api.TCmp {
			expect(t, text, expr.CompareText(tree), text)
			expect(t, text, readSum(expr.SumText(tree.L)), toldSum(tree.L))
			expect(t, text, readSum(expr.SumText(tree.R)), toldSum(tree.R))
		}
	}
	if pairs < 3000 {
		t.Errorf("only %d pairs of parentheses", pairs)
	}
	for _, n := range []int{1, 2, 63, 64} {
		expect(t, "many", readSum(expr.SumText(many(n))), toldSum(many(n)))
	}
}

// without are the texts without one pair of parentheses.
func without(text string) []string {
	var all []string
	var open []int
	for i := range len(text) {
		switch text[i] {
		case '(':
			open = append(open, i)
		case ')':
			from := open[len(open)-1]
			open = open[:len(open)-1]
			all = append(all, text[:from]+text[from+1:i]+text[i+1:])
		}
	}
	return all
}

// loose is a text of a tree with more parentheses than needed.
func loose(r *rand.Rand, tree api.Tree, levels int) string {
	text := printed(tree)
	if len(tree.Kids) > 0 {
		kids := []string{}
		for _, kid := range tree.Kids {
			kids = append(kids, "("+loose(r, kid, levels-1)+")")
		}
		text = strings.Join(kids, map[int]string{api.TAnd: "&", api.TOr: " | "}[tree.Kind])
		if tree.Kind == api.TNot {
			text = "! " + text
		}
	}
	if levels > 0 && r.Intn(3) == 0 {
		text = "( " + text + ")"
	}
	return text
}

// TestP11_2WhatIsParsed: it is valid, and its text is parsed to the same tree.
func TestP11_2WhatIsParsed(t *testing.T) {
	r := rand.New(rand.NewSource(4))
	parsed := 0
	for i, tree := range trees(4000) {
		texts := []string{strings.ReplaceAll(loose(r, tree, 6), " ", one(r, "", "  ", "\t", "\n", " # ( \r\n"))}
		for range 5 {
			ts := changed(r, tokens(printed(tree)), 1+i%2)
			text := ""
			for _, token := range ts {
				text += token.Text + one(r, " ", "\n", "\t")
			}
			texts = append(texts, text)
		}
		expect(t, texts[0], readCond(texts[0]), told(tree))
		for _, text := range texts {
			if got, _, e := expr.ParseCond(text); e == api.OK {
				parsed++
				expectRightText(t, got)
			}
		}
	}
	if parsed < 5000 {
		t.Errorf("only %d texts are parsed", parsed)
	}
}

func expectRightText(t *testing.T, tree api.Tree) {
	t.Helper()
	if !expr.Right(tree) {
		t.Errorf("%s is parsed", told(tree))
	}
	expect(t, told(tree), readCond(expr.Text(tree)), told(tree))
	for _, kid := range tree.Kids {
		expectRightText(t, kid)
	}
	if tree.Kind == api.TCmp && !(expr.Compares(tree) && expr.RightSum(tree.L) && expr.RightSum(tree.R)) {
		t.Errorf("%s is parsed", told(tree))
	}
}
