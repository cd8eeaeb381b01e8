package ltl_test

import (
	"fmt"
	"math/rand"
	"slices"
	"strings"
	"testing"

	"plumbline/api"
	"plumbline/lex"
	"plumbline/ltl"
)

func TestP14_1Parse(t *testing.T) {
	a, b, c := is("x", "1"), is("y", "2"), is("z", "3")
	const A, B, C = "x = 1", "y = 2", "z = 3"
	until := func(l, r api.Tree) api.Tree { return of(api.TUntil, l, r) }
	free := func(l, r api.Tree) api.Tree { return of(api.TFree, l, r) }
	imp := func(l, r api.Tree) api.Tree { return of(api.TImp, l, r) }
	and := func(l, r api.Tree) api.Tree { return of(api.TAnd, l, r) }
	or := func(l, r api.Tree) api.Tree { return of(api.TOr, l, r) }
	not := func(kid api.Tree) api.Tree { return of(api.TNot, kid) }
	next := func(kid api.Tree) api.Tree { return of(api.TNext, kid) }
	all := func(kid api.Tree) api.Tree { return of(api.TAll, kid) }
	some := func(kid api.Tree) api.Tree { return of(api.TSome, kid) }
	for _, x := range []struct {
		s    string
		want api.Tree
	}{
		{"true", yes()}, {"false", no()}, {A, a}, {"@p.a", at("p", "a")}, {"@q.q", at("q", "q")}, {" @ p\n.\tx # .", at("p", "x")}, {"@p.a & p = 1", and(at("p", "a"), is("p", "1"))},
		{"-x + 2*y - 3 <= 0", cmp(sum(minus("", "x"), plus("2", "y"), minus("3", "")), api.Le, sum(plus("0", "")))}, {"longer_name_20_bytes != 7", cmp(sum(plus("", "longer_name_20_bytes")), api.Ne, sum(plus("7", "")))},
		{"!" + A, not(a)}, {"X " + A, next(a)}, {"G " + A, all(a)}, {"F " + A, some(a)}, {"!XGF!" + A, not(next(all(some(not(a)))))}, {"GF@p.a", all(some(at("p", "a")))}, {"Xx=1", next(a)}, {"! -x < 1", not(cmp(sum(minus("", "x")), api.Lt, sum(plus("1", ""))))},
		{A + " U " + B, until(a, b)}, {A + " R " + B, free(a, b)}, {"x=1Uy=2", until(a, b)}, {A + " -> " + B, imp(a, b)}, {"x=1->y=2", imp(a, b)}, {A + " & " + B, and(a, b)}, {A + " | " + B, or(a, b)},
		// to the right
		{A + " U " + B + " U " + C, until(a, until(b, c))}, {A + " R " + B + " R " + C, free(a, free(b, c))}, {A + " U " + B + " R " + C, until(a, free(b, c))}, {A + " R " + B + " U " + C, free(a, until(b, c))}, {A + " U " + B + " R " + C + " U " + A, until(a, free(b, until(c, a)))},
		{A + " -> " + B + " -> " + C, imp(a, imp(b, c))}, {A + " -> " + B + " -> " + C + " -> " + A, imp(a, imp(b, imp(c, a)))}, {"(" + A + " U " + B + ") U " + C, until(until(a, b), c)}, {"(" + A + " U " + B + ") R " + C, free(until(a, b), c)}, {"(" + A + " -> " + B + ") -> " + C, imp(imp(a, b), c)},
		{A + " U (" + B + " U " + C + ")", until(a, until(b, c))}, {A + " -> (" + B + " -> " + C + ")", imp(a, imp(b, c))},
		// to the left
		{A + " & " + B + " & " + C, and(and(a, b), c)}, {A + " | " + B + " | " + C, or(or(a, b), c)}, {A + " & (" + B + " & " + C + ")", and(a, and(b, c))}, {A + " | (" + B + " | " + C + ")", or(a, or(b, c))}, {"(" + A + " & " + B + ") & " + C, and(and(a, b), c)},
		// which binds more
		{A + " | " + B + " & " + C, or(a, and(b, c))}, {A + " & " + B + " | " + C, or(and(a, b), c)}, {A + " -> " + B + " | " + C, imp(a, or(b, c))}, {A + " | " + B + " -> " + C, imp(or(a, b), c)}, {A + " & " + B + " -> " + C, imp(and(a, b), c)}, {A + " -> " + B + " & " + C, imp(a, and(b, c))},
		{A + " U " + B + " & " + C, and(until(a, b), c)}, {A + " & " + B + " U " + C, and(a, until(b, c))}, {A + " R " + B + " | " + C, or(free(a, b), c)}, {A + " | " + B + " R " + C, or(a, free(b, c))}, {A + " U " + B + " -> " + C, imp(until(a, b), c)}, {A + " -> " + B + " U " + C, imp(a, until(b, c))},
		{"!" + A + " & " + B, and(not(a), b)}, {"X " + A + " U " + B, until(next(a), b)}, {A + " U G " + B + " R " + C, until(a, free(all(b), c))}, {"F " + A + " | " + B, or(some(a), b)}, {"G " + A + " -> " + B, imp(all(a), b)}, {"!(" + A + " -> " + B + ")", not(imp(a, b))},
		{"G (" + A + " & " + B + ")", all(and(a, b))}, {"X (" + A + " U " + B + ")", next(until(a, b))}, {"(" + A + " -> " + B + ") & " + C, and(imp(a, b), c)}, {"(" + A + " | " + B + ") U " + C, until(or(a, b), c)}, {A + " U (" + B + " & " + C + ")", until(a, and(b, c))}, {"((" + A + "))", a}, {"(true) U ((false))", until(yes(), no())},
		{"G (x > 0 -> F @p.b)", all(imp(cmp(sum(plus("", "x")), api.Gt, sum(plus("0", ""))), some(at("p", "b"))))},
	} {
		expect(t, x.s, read(x.s), told(x.want))
		expect(t, x.s+" by the rules", wanted(x.s, system()), told(x.want))
	}
}

func TestP14_1ParseErrors(t *testing.T) {
	for _, c := range []struct{ s, want string }{
		// too early an end
		{"", "ErrWant at 1:1"}, {" # c", "ErrWant at 1:5"}, {"x", "ErrWant at 1:2"}, {"x =", "ErrWant at 1:4"}, {"x = 1 U", "ErrWant at 1:8"}, {"x = 1 R ", "ErrWant at 1:9"}, {"x = 1 &", "ErrWant at 1:8"}, {"x = 1 |", "ErrWant at 1:8"}, {"x = 1 ->", "ErrWant at 1:9"}, {"!", "ErrWant at 1:2"}, {"X", "ErrWant at 1:2"}, {"G\n", "ErrWant at 2:1"}, {"F #", "ErrWant at 1:4"},
		{"(", "ErrWant at 1:2"}, {"(true", "ErrWant at 1:6"}, {"((true)", "ErrWant at 1:8"}, {"@", "ErrWant at 1:2"}, {"@p", "ErrWant at 1:3"}, {"@p.", "ErrWant at 1:4"}, {"-", "ErrWant at 1:2"}, {"2*", "ErrWant at 1:3"}, {"x +", "ErrWant at 1:4"},
		// what cannot continue
		{"U", "ErrWant at 1:1"}, {"R true", "ErrWant at 1:1"}, {"-> true", "ErrWant at 1:1"}, {"& true", "ErrWant at 1:1"}, {")", "ErrWant at 1:1"}, {"()", "ErrWant at 1:2"}, {". p", "ErrWant at 1:1"}, {"in", "ErrWant at 1:1"}, {"loc = 1", "ErrWant at 1:1"}, {"p.a", "ErrWant at 1:2"}, {"p@a", "ErrWant at 1:2"},
		{"x = 1 U U true", "ErrWant at 1:9"}, {"x = 1 U -> true", "ErrWant at 1:9"}, {"x = 1 U R true", "ErrWant at 1:9"}, {"true & -> true", "ErrWant at 1:8"}, {"true | & true", "ErrWant at 1:8"}, {"true -> -> true", "ErrWant at 1:9"}, {"true - > true", "ErrWant at 1:6"}, {"x = 1 - > true", "ErrWant at 1:9"}, {"X U true", "ErrWant at 1:3"}, {"G & true", "ErrWant at 1:3"}, {"x X = 1", "ErrWant at 1:3"}, {"x = X 1", "ErrWant at 1:5"}, {"x < y < z", "ErrWant at 1:7"}, {"x = true", "ErrWant at 1:5"}, {"x = @p.a", "ErrWant at 1:5"},
		// what goes on behind it
		{"true true", "ErrWant at 1:6"}, {"true)", "ErrWant at 1:5"}, {"true X true", "ErrWant at 1:6"}, {"true ! true", "ErrWant at 1:6"}, {"x = 1 y = 2", "ErrWant at 1:7"}, {"@p.a.b", "ErrWant at 1:5"}, {"@p.a @p.b", "ErrWant at 1:6"}, {"@p.a = 1", "ErrWant at 1:6"}, {"@p.a + 1 = 2", "ErrWant at 1:6"}, {"(true) (true)", "ErrWant at 1:8"}, {"true;", "ErrWant at 1:5"}, {"true -> false\n\n ,", "ErrWant at 3:2"}, {"true G", "ErrWant at 1:6"}, {"(true) = 1", "ErrWant at 1:8"}, {"(true))", "ErrWant at 1:7"}, {"x = 1 2", "ErrWant at 1:7"}, {"x = (1)", "ErrWant at 1:5"},
		// "(" begins a property, but no sum
		{"(x) = 1", "ErrWant at 1:3"}, {"(x + 1) = 2", "ErrWant at 1:7"}, {"((x) = 1)", "ErrWant at 1:4"}, {"G (x + y) > 1", "ErrWant at 1:9"}, {"(1) < x", "ErrWant at 1:3"}, {"2 * (x) = 1", "ErrWant at 1:5"}, {"(x = 1) + 1 = 2", "ErrWant at 1:9"}, {"(-x) = 1", "ErrWant at 1:4"}, {"-(x = 1)", "ErrWant at 1:2"},
	} {
		expect(t, c.s, read(c.s), c.want)
	}
}

func TestP14_1ParseNames(t *testing.T) {
	for _, c := range []struct{ s, want string }{
		{"@s.a", "ErrName at 1:2"}, {"@ x . a", "ErrName at 1:3"}, {"@a.p", "ErrName at 1:2"}, {"@longer_name_20_bytes.a", "ErrName at 1:2"}, {"@s.s", "ErrName at 1:2"}, {"true U @pp.a", "ErrName at 1:9"}, {"@s", "ErrName at 1:2"}, {"@s s", "ErrName at 1:2"},
		{"@p.s", "ErrName at 1:4"}, {"@p.p", "ErrName at 1:4"}, {"@p\n. y", "ErrName at 2:3"}, {"@q.x", "ErrName at 1:4"}, {"X @p.c", "ErrName at 1:6"}, {"@q.a", "ErrName at 1:4"}, {"@p.c & @s.s", "ErrName at 1:4"}, {"@p.c c", "ErrName at 1:4"},
		// the first process of a name counts
		{"@p.d", "ErrName at 1:4"}, {"@p.a", told(at("p", "a"))}, {"@p.b", told(at("p", "b"))}, {"@r.a", "ErrName at 1:4"},
		// what is no name
		{"@true.a", "ErrWant at 1:2"}, {"@init.a", "ErrWant at 1:2"}, {"@p.end", "ErrWant at 1:4"}, {"@p.false", "ErrWant at 1:4"}, {"@p.loc", "ErrWant at 1:4"}, {"@proc.a", "ErrWant at 1:2"}, {"@X.a", "ErrWant at 1:2"}, {"@p.G", "ErrWant at 1:4"}, {"@1.a", "ErrWant at 1:2"}, {"@p.1", "ErrWant at 1:4"}, {"@.a", "ErrWant at 1:2"}, {"@p..a", "ErrWant at 1:3"}, {"@p:a", "ErrWant at 1:3"}, {"@p a", "ErrWant at 1:4"}, {"@(p.a)", "ErrWant at 1:2"}, {"@@p.a", "ErrWant at 1:2"}, {"@p@a", "ErrWant at 1:3"}, {"@-p.a", "ErrWant at 1:2"}, {"@p.(a)", "ErrWant at 1:4"},
		// variables
		{"q = 1", "ErrName at 1:1"}, {"a = 1", "ErrName at 1:1"}, {"a = 1 U", "ErrName at 1:1"}, {"x = 1 -> b > 2", "ErrName at 1:10"}, {"x + 2*v <= 1", "ErrName at 1:7"}, {"1 = -v", "ErrName at 1:6"}, {"G (x = y U v = 1", "ErrName at 1:12"}, {"v v", "ErrName at 1:1"}, {"longer_name_20_byte = 1", "ErrName at 1:1"}, {"xx = 1", "ErrName at 1:1"},
	} {
		expect(t, c.s, read(c.s), c.want)
	}
	none := api.Sys{}
	for _, c := range []struct{ s, want string }{
		{"x = 1", "ErrName at 1:1"}, {"1 = x", "ErrName at 1:5"}, {"1 = 2", told(cmp(sum(plus("1", "")), api.Eq, sum(plus("2", ""))))}, {"@p.a", "ErrName at 1:2"}, {"@p", "ErrName at 1:2"}, {"@", "ErrWant at 1:2"}, {"G true", told(of(api.TAll, yes()))}, {"x", "ErrName at 1:1"},
	} {
		expect(t, c.s, readIn(c.s, none), c.want)
	}
}

// TestP14_1ParseOrder: of errors of layer 10 and of the grammar, and of several errors
// at the same token.
func TestP14_1ParseOrder(t *testing.T) {
	long := strings.Repeat("x + ", 64) // 64 monos before the next one
	deep := strings.Repeat("(", 60)
	for _, c := range []struct{ s, want string }{
		{"true true ?", "ErrSign at 1:11"}, {"s s s\n\r", "ErrSign at 2:1"}, {"@ 007", "ErrForm at 1:3"}, {"() " + strings.Repeat("a", 21), "ErrLong at 1:4"}, {"U " + strings.Repeat("1", 61), "ErrLong at 1:3"}, {"G é", "ErrSign at 1:3"}, {"H true", "ErrSign at 1:1"}, {strings.Repeat("!", 61) + "$", "ErrSign at 1:62"},
		{strings.Repeat(" ", 16385), "ErrLong at 1:1"}, {"true" + strings.Repeat(" ", 16380), told(yes())}, {"?" + strings.Repeat("!", 16384), "ErrLong at 1:1"}, {strings.Repeat("!", 16384), "ErrDeep at 1:61"},
		{long + "x = 1", "ErrMany at 1:257"}, {long[4:] + "x = 1", told(cmp(many(64), api.Eq, sum(plus("1", ""))))}, {"1 = " + long + "x", "ErrMany at 1:261"}, {"1 = " + long[4:] + "x", told(cmp(sum(plus("1", "")), api.Eq, many(64)))}, {long[4:] + "x = " + long[4:] + "x", told(cmp(many(64), api.Eq, many(64)))},
		{long + "v = 1", "ErrMany at 1:257"}, {long + "2*v = 1", "ErrMany at 1:257"}, {long + "true = 1", "ErrWant at 1:257"}, {long + "* = 1", "ErrWant at 1:257"}, {long, "ErrWant at 1:257"}, {long + "2 2", "ErrMany at 1:257"}, {long[4:] + "2*v = 1", "ErrName at 1:255"}, {long[4:] + "v = 1", "ErrName at 1:253"}, {long[4:] + "2*v + v = 1", "ErrName at 1:255"},
		{deep + "(true", "ErrDeep at 1:61"}, {deep + "(v = 1", "ErrDeep at 1:61"}, {deep + "v = 1", "ErrName at 1:61"}, {deep + ")", "ErrWant at 1:61"}, {deep + "x = 1 (", "ErrWant at 1:67"}, {deep + "x = 1 !", "ErrWant at 1:67"}, {deep + "x = 1 G", "ErrWant at 1:67"}, {deep + "x = (", "ErrWant at 1:65"}, {deep + "U", "ErrWant at 1:61"}, {deep + "@(", "ErrWant at 1:62"}, {deep + "@s(", "ErrName at 1:62"}, {deep + "true) (", "ErrWant at 1:67"},
	} {
		expect(t, c.s, read(c.s), c.want)
		if _, _, e := lex.All(c.s); e == api.OK && len(c.s) < 1000 {
			expect(t, c.s+" by the rules", wanted(c.s, system()), c.want)
		}
	}
}

// TestP14_1ParseLevels: from both sides of the limit, for each sign that opens one.
func TestP14_1ParseLevels(t *testing.T) {
	repeat := strings.Repeat
	for sign, kind := range map[string]int{"!": api.TNot, "X": api.TNext, "G": api.TAll, "F": api.TSome} {
		expect(t, sign, read(repeat(sign, 60)+"true"), told(above(60, kind, yes())))
		expect(t, sign, read(repeat(sign, 61)+"true"), "ErrDeep at 1:61")
		expect(t, sign, read(repeat(sign+"\n", 61)+"true"), "ErrDeep at 61:1")
		expect(t, sign, read(repeat(sign, 59)+"(true)"), told(above(59, kind, yes())))
		expect(t, sign, read(repeat(sign, 60)+"(true)"), "ErrDeep at 1:61")
		expect(t, sign, read(repeat("(", 59)+sign+"true"+repeat(")", 59)), told(above(1, kind, yes())))
		expect(t, sign, read(repeat("(", 60)+sign+"true"+repeat(")", 60)), "ErrDeep at 1:61")
		expect(t, sign, read(repeat(sign+"(", 30)+"true"+repeat(")", 30)), told(above(30, kind, yes())))
		expect(t, sign, read(repeat(sign+"(", 30)+sign), "ErrDeep at 1:61")
		for _, other := range []string{"true U ", "true R ", "true & ", "true | ", "true -> "} { // ends of levels
			expect(t, other, read(repeat(sign, 60)+other+repeat(sign, 60)+"false"), wanted(repeat(sign, 60)+other+repeat(sign, 60)+"false", system()))
			expect(t, other, read(repeat(sign, 60)+other+repeat(sign, 61)+"false"), fmt.Sprint("ErrDeep at 1:", 60+len(other)+61))
		}
	}
	expect(t, "(", read(repeat("(", 60)+"true"+repeat(")", 60)), told(yes()))
	expect(t, "(", read(repeat("(", 61)+"true"+repeat(")", 61)), "ErrDeep at 1:61")
	expect(t, "mixed", read(repeat("(!XGF", 12)+"true"+repeat(")", 12)), told(times(12, yes(), func(t api.Tree) api.Tree { return of(api.TNot, of(api.TNext, of(api.TAll, of(api.TSome, t)))) })))
	for _, sign := range []string{"(", "!", "X", "G", "F"} {
		expect(t, "mixed", read(repeat("(!XGF", 12)+sign), "ErrDeep at 1:61")
		expect(t, "behind levels that are closed", read("("+repeat("(", 59)+"true"+repeat(")", 59)+" & "+repeat("!", 59)+sign+"true)"), "ErrDeep at 1:186")
	}
	for _, x := range []struct {
		sign string
		kind int
	}{{" U ", api.TUntil}, {" R ", api.TFree}, {" -> ", api.TImp}} { // no levels
		expect(t, x.sign, read(repeat("true"+x.sign, 1000)+"false"), told(times(1000, no(), func(t api.Tree) api.Tree { return of(x.kind, yes(), t) })))
	}
	for sign, kind := range map[string]int{"&": api.TAnd, "|": api.TOr} {
		expect(t, sign, read("false"+repeat(sign+"true", 1000)), told(times(1000, no(), func(t api.Tree) api.Tree { return of(kind, t, yes()) })))
	}
}

// TestP14_1ParseByRules: texts whose tokens are changed.
func TestP14_1ParseByRules(t *testing.T) {
	r := rand.New(rand.NewSource(41))
	counts := map[string]int{}
	for i, tree := range trees(9000) {
		text := joined(r, changed(r, tokens(loose(r, tree, 4)), i%4))
		sys := system()
		if i%8 == 0 {
			sys.Vars, sys.Procs = sys.Vars[:r.Intn(3)], sys.Procs[r.Intn(4):]
		}
		want := wanted(text, sys)
		expect(t, text, readIn(text, sys), want)
		if !strings.HasPrefix(want, "Err") {
			want = "OK"
		}
		counts[strings.Fields(want)[0]]++
	}
	for _, e := range []string{"OK", "ErrWant", "ErrMany", "ErrDeep", "ErrName"} {
		if counts[e] < 100 {
			t.Errorf("%s: only %d texts", e, counts[e])
		}
	}
}

// joined is the text of tokens, with blanks between them.
func joined(r *rand.Rand, texts []string) string {
	text := ""
	for _, token := range texts {
		text += token + one(r, " ", " ", "\n", "\t", " # x\n")
	}
	return text
}

// changed are the texts of tokens with so many changes.
func changed(r *rand.Rand, ts []lex.Token, n int) []string {
	var texts []string
	for _, t := range ts[:len(ts)-1] {
		texts = append(texts, t.Text)
	}
	for range n {
		i, j := r.Intn(len(texts)), r.Intn(len(texts))
		switch r.Intn(10) {
		case 0:
			texts[i] = ""
		case 1:
			texts[i], texts[j] = texts[j], texts[i]
		case 2, 3:
			texts[i] = token(r)
		case 4:
			texts[i] += " " + token(r)
		case 5:
			texts = texts[:i+1]
		case 6:
			texts[i] = strings.Repeat(one(r, "!", "X", "G ", "F ", "(", "! G ", "X ("), 25+r.Intn(40)) + texts[i]
		case 7:
			texts[i] += strings.Repeat(one(r, " + 1", " - x", " + 2 * y"), 60+r.Intn(8))
		case 8: // one name for another
			names := []string{"a", "b", "c", "d", "p", "q", "r", "s", "x", "y"}
			if k := slices.IndexFunc(texts[i:], lex.Name); k >= 0 {
				texts[i+k] = one(r, names...)
			}
		default: // a piece twice
			i, j = min(i, j), max(i, j)
			texts = slices.Concat(texts[:j], texts[i:])
		}
	}
	return texts
}

func token(r *rand.Rand) string {
	return one(r, strings.Fields("true false in x y p q a b 0 1 - + * = <= ! X G F U R ( ) & | -> @ . @p.b @q.c true x=1 ; ..")...)
}

// loose is a text of a tree with more parentheses than needed, but not too many.
func loose(r *rand.Rand, tree api.Tree, levels int) string {
	text := printed(tree)
	if len(tree.Kids) > 0 && levels > 0 && r.Intn(3) > 0 {
		var kids []string
		for _, kid := range tree.Kids {
			kids = append(kids, "("+loose(r, kid, levels-1)+")")
		}
		sign := map[int]string{api.TNot: "!", api.TNext: "X", api.TAll: "G", api.TSome: "F", api.TAnd: "&", api.TOr: "|", api.TImp: "->", api.TUntil: "U", api.TFree: "R"}[tree.Kind]
		text = kids[0] + sign + kids[len(kids)-1]
		if len(kids) == 1 {
			text = sign + kids[0]
		}
	}
	if levels > 0 && r.Intn(4) == 0 {
		text = "( " + text + ")"
	}
	return text
}

// TestP14_2WhatIsParsed: it is valid and known, and its text is parsed to the same tree.
func TestP14_2WhatIsParsed(t *testing.T) {
	r := rand.New(rand.NewSource(4))
	parsed := 0
	for i, tree := range trees(4000) {
		text := loose(r, tree, 5)
		expect(t, text, read(text), told(tree))
		text = joined(r, changed(r, tokens(text), 1+i%2))
		got, _, e := ltl.Parse(text, system())
		if e != api.OK {
			continue
		}
		parsed++
		_, _, known := ltl.Resolve(got, system())
		if !ltl.Right(got) || !known {
			t.Errorf("%s is parsed", text)
		}
		expect(t, text, read(ltl.Text(got)), told(got))
	}
	if parsed < 300 {
		t.Errorf("only %d texts are parsed", parsed)
	}
}
