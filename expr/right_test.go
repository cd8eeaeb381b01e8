package expr_test

import (
	"fmt"
	"math"
	"math/rand"
	"strings"
	"testing"

	"plumbline/api"
	"plumbline/expr"
)

// wrongMonos are not valid, each for one reason.
func wrongMonos() []api.Mono {
	ms := []api.Mono{{}, {Neg: true}}
	for _, num := range []string{"00", "01", "007", "-1", "+1", " 1", "1 ", "x", "1x", "1.5", "1_0", "é", "\xff", strings.Repeat("1", 61), strings.Repeat("0", 60), "1*2", "1 + 2"} {
		ms = append(ms, plus(num, ""), minus(num, "x"))
	}
	for _, name := range []string{"true", "in", "end", "X", "_x", "1", "1x", " x", "x ", "x y", "x + y", "é", "\xff", "x\x00", strings.Repeat("x", 21), "-x", "x#"} {
		ms = append(ms, plus("", name), minus("2", name))
	}
	return ms
}

func TestP11_1RightSum(t *testing.T) {
	right := [][]api.Mono{
		sum(plus("", "x")), sum(minus("", "x")), sum(plus("0", "")), sum(minus("0", "x")), sum(plus("12", "x"), minus("7", ""), plus("", "y")),
		sum(plus(strings.Repeat("9", 60), strings.Repeat("z", 20))), many(2), many(63), many(64),
	}
	wrong := [][]api.Mono{nil, {}, many(65), many(66), many(1000)}
	for _, m := range wrongMonos() {
		wrong = append(wrong, sum(m), append(many(3), m), append(sum(m), many(3)...), append(many(63), m))
	}
	for _, ms := range right {
		expect(t, toldSum(ms), fmt.Sprint(expr.RightSum(ms)), "true")
		expect(t, toldSum(ms), expr.SumText(ms), printedSum(ms))
	}
	for _, ms := range wrong {
		expect(t, toldSum(ms), fmt.Sprint(expr.RightSum(ms)), "false")
		expect(t, toldSum(ms), expr.SumText(ms), "")
		got, ok := expr.Term(ms, []string{"x", "y", "true", "x + y", "", "X"})
		expect(t, toldSum(ms), fmt.Sprint(got, ok), fmt.Sprint(api.Term{}, false))
	}
}

func TestP11_1Bare(t *testing.T) {
	wrong := not(yes())
	for _, c := range []struct {
		t    api.Tree
		want bool
	}{
		{api.Tree{}, true}, {of(77), true}, {of(-1, yes(), wrong), true}, {of(api.TCmp), true}, {of(api.TAt), true}, {of(api.TTrue, is("x", "1")), true}, {of(api.TNot, no(), no(), no()), true},
		{api.Tree{L: []api.Mono{}, R: []api.Mono{}, Kids: []api.Tree{}}, true}, {api.Tree{L: many(3)[:0]}, true},
		{api.Tree{L: []api.Mono{{}}}, false}, {api.Tree{R: []api.Mono{{}}}, false}, {api.Tree{L: many(1)}, false}, {api.Tree{Op: 1}, false}, {api.Tree{Op: -1}, false}, {api.Tree{Proc: "p"}, false}, {api.Tree{Loc: "a"}, false},
		{api.Tree{Loc: "\x00"}, false}, {is("x", "1"), false},
	} {
		if got := expr.Bare(c.t); got != c.want {
			t.Errorf("Bare(%s) = %v", told(c.t), got)
		}
	}
}

func TestP11_1CompareTextCompares(t *testing.T) {
	x, y := sum(plus("", "x")), sum(minus("2", "y"), plus("1", ""))
	for op, want := range map[int]string{
		api.Eq: "x = -2*y + 1", api.Ne: "x != -2*y + 1", api.Lt: "x < -2*y + 1", api.Le: "x <= -2*y + 1", api.Gt: "x > -2*y + 1", api.Ge: "x >= -2*y + 1",
		-1: "", 6: "", math.MaxInt: "", math.MinInt: "",
	} {
		expectCompare(t, cmp(x, op, y), want)
	}
	expectCompare(t, cmp(y, api.Lt, x), "-2*y + 1 < x")
	expectCompare(t, api.Tree{Kind: api.TCmp, L: x, R: x, Kids: []api.Tree{}}, "x = x")
	expectCompare(t, cmp(many(64), api.Eq, many(64)), printedSum(many(64))+" = "+printedSum(many(64)))
	for _, wrong := range append(trees(200), wrongCompares()...) {
		if wrong.Kind != api.TCmp || !expr.RightSum(wrong.L) || !expr.RightSum(wrong.R) || len(wrong.Kids) > 0 || wrong.Proc+wrong.Loc != "" {
			expectCompare(t, wrong, "")
		}
	}
}

func expectCompare(t *testing.T, tree api.Tree, want string) {
	t.Helper()
	expect(t, told(tree), expr.CompareText(tree), want)
	if got := expr.Compares(tree); got != (want != "") {
		t.Errorf("Compares(%s) = %v", told(tree), got)
	}
}

// wrongCompares are not valid, each for one reason.
func wrongCompares() []api.Tree {
	var all []api.Tree
	change := func(by func(*api.Tree)) {
		t := is("x", "1")
		by(&t)
		all = append(all, t)
	}
	change(func(t *api.Tree) { t.Proc = "p" })
	change(func(t *api.Tree) { t.Loc = "a" })
	change(func(t *api.Tree) { t.Kids = []api.Tree{yes()} })
	change(func(t *api.Tree) { t.L = nil })
	change(func(t *api.Tree) { t.R = []api.Mono{} })
	change(func(t *api.Tree) { t.L = many(65) })
	change(func(t *api.Tree) { t.R = many(65) })
	for _, op := range []int{-1, 6, 7, math.MaxInt, math.MinInt} {
		change(func(t *api.Tree) { t.Op = op })
	}
	for _, m := range wrongMonos() {
		change(func(t *api.Tree) { t.L = sum(plus("", "x"), m) })
		change(func(t *api.Tree) { t.R = sum(m) })
	}
	for _, kind := range []int{-1, api.TTrue, api.TFalse, api.TNot, api.TAnd, api.TOr, api.TAt, api.TImp, api.TFree, 13} {
		change(func(t *api.Tree) { t.Kind = kind })
	}
	return all
}

// wrongTrees are not valid, each for one reason.
func wrongTrees() []api.Tree {
	all := wrongCompares()
	x := is("x", "1")
	for _, kind := range []int{-1, api.TAt, api.TImp, api.TNext, api.TAll, api.TSome, api.TUntil, api.TFree, 13, math.MaxInt, math.MinInt} {
		all = append(all, of(kind), of(kind, x), of(kind, x, x), api.Tree{Kind: kind, L: x.L, R: x.R}, api.Tree{Kind: kind, Proc: "p", Loc: "a"})
	}
	all = append(all, of(api.TTrue, x), of(api.TFalse, x), of(api.TNot), of(api.TNot, x, x), of(api.TAnd), of(api.TAnd, x), of(api.TAnd, x, x, x), of(api.TOr), of(api.TOr, x), of(api.TOr, x, x, x))
	for _, right := range []api.Tree{yes(), no(), not(x), and(x, x), or(x, x)} {
		for _, other := range []api.Tree{{L: many(1)}, {R: many(1)}, {Op: 1}, {Op: -1}, {Proc: "p"}, {Loc: "a"}} {
			other.Kind, other.Kids = right.Kind, right.Kids
			all = append(all, other)
		}
	}
	return append(all, tooDeep()...)
}

// tooDeep are trees of 61 levels.
func tooDeep() []api.Tree {
	x := is("x", "1")
	deep := func(n int, change func(api.Tree) api.Tree) api.Tree { return times(n, x, change) }
	return []api.Tree{
		deep(61, not),
		deep(62, func(t api.Tree) api.Tree { return and(x, t) }), // the innermost one has no parentheses
		deep(62, func(t api.Tree) api.Tree { return or(x, t) }),
		not(deep(31, func(t api.Tree) api.Tree { return not(and(x, t)) })),
		and(and(x, yes()), deep(61, not)), and(deep(61, not), x), or(x, or(x, deep(60, not))), not(or(x, deep(59, not))), not(and(x, deep(59, not))),
		and(or(deep(60, not), x), x), and(x, or(deep(60, not), x)), and(x, and(deep(60, not), x)), or(deep(61, not), and(x, x)),
		times(16, x, func(t api.Tree) api.Tree { return not(not(or(and(x, or(x, t)), x))) }),
	}
}

// justDeep are trees of 60 levels.
func justDeep() []api.Tree {
	x := is("x", "1")
	deep := func(n int, change func(api.Tree) api.Tree) api.Tree { return times(n, x, change) }
	return []api.Tree{
		deep(60, not),
		deep(61, func(t api.Tree) api.Tree { return and(x, t) }),
		deep(61, func(t api.Tree) api.Tree { return or(x, t) }),
		deep(30, func(t api.Tree) api.Tree { return not(and(x, t)) }), deep(30, func(t api.Tree) api.Tree { return not(or(t, x)) }),
		and(and(x, yes()), deep(60, not)), and(deep(60, not), x), or(x, or(x, deep(59, not))), not(or(x, deep(58, not))), not(and(x, deep(58, not))),
		and(or(deep(59, not), x), x), and(x, or(deep(59, not), x)), and(x, and(deep(59, not), x)), or(deep(60, not), and(x, x)), or(and(x, deep(60, not)), deep(60, not)),
		deep(1000, func(t api.Tree) api.Tree { return and(t, x) }), deep(1000, func(t api.Tree) api.Tree { return or(t, x) }),
		deep(60, func(t api.Tree) api.Tree { return and(or(t, x), x) }),
		times(15, x, func(t api.Tree) api.Tree { return not(not(or(and(x, or(x, t)), x))) }),
	}
}

func expectRight(t *testing.T, tree api.Tree, want bool) {
	t.Helper()
	if got := expr.Right(tree); got != want {
		t.Errorf("Right(%.300s) = %v", told(tree), got)
	}
	text := ""
	if want {
		text = printed(tree)
	}
	expect(t, told(tree), expr.Text(tree), text)
	f, ok := expr.Form(tree, []string{"x", "y", "z", "x1", "longer_name_20_bytes"})
	if ok != want || !ok && fmt.Sprint(f) != fmt.Sprint(api.Form{Kind: api.False}) {
		t.Errorf("Form of %.300s: %v, %v", told(tree), f, ok)
	}
}

func TestP11_1Right(t *testing.T) {
	for _, tree := range append(append(trees(2000), justDeep()...), yes(), no(), api.Tree{Kind: 1, L: []api.Mono{}, R: many(3)[:0], Kids: []api.Tree{}}) {
		expectRight(t, tree, true)
	}
	x := is("x", "1")
	for _, wrong := range wrongTrees() {
		expectRight(t, wrong, false)
		for _, within := range []api.Tree{not(wrong), and(wrong, x), and(x, wrong), or(x, wrong), or(wrong, x), not(and(x, not(or(x, wrong))))} {
			expectRight(t, within, false)
		}
	}
}

// TestP11_1RightByParsing: a tree is valid exactly if its text, as it would be
// written, is parsed back to it.
func TestP11_1RightByParsing(t *testing.T) {
	r := rand.New(rand.NewSource(9))
	wrong := wrongTrees()
	counts := map[bool]int{}
	for _, tree := range trees(4000) {
		spoil(r, &tree, wrong)
		parsed, _, e := expr.ParseCond(printed(tree))
		want := e == api.OK && told(parsed) == told(tree)
		expectRight(t, tree, want)
		counts[want]++
	}
	if counts[true] < 500 || counts[false] < 500 {
		t.Errorf("%v", counts)
	}
}

// spoil changes one of the subtrees, or none.
func spoil(r *rand.Rand, t *api.Tree, wrong []api.Tree) {
	if len(t.Kids) > 0 && r.Intn(3) > 0 {
		spoil(r, &t.Kids[r.Intn(len(t.Kids))], wrong)
		return
	}
	switch other := wrong[r.Intn(len(wrong))]; r.Intn(12) {
	case 0:
		*t = other
	case 1:
		t.Kind = r.Intn(8)
	case 2:
		t.Kids = append(t.Kids, other)
	case 3:
		t.L = append(t.L, other.L...)
	case 4:
		t.Op += r.Intn(3) - 1
	case 5:
		t.Proc = other.Proc
	case 6:
		*t = times(50+r.Intn(15), *t, not)
	}
}

// TestP11_1DeepTrees: there is no limit on what needs no parentheses.
func TestP11_1DeepTrees(t *testing.T) {
	const n = 1 << 16
	x := is("x", "1")
	for kind, sign := range map[int]string{api.TAnd: " & ", api.TOr: " | "} {
		tree := times(n, x, func(t api.Tree) api.Tree { return of(kind, t, x) })
		if !expr.Right(tree) || expr.Text(tree) != strings.Repeat("x = 1"+sign, n)+"x = 1" {
			t.Error("a deep tree is not valid, or has another text")
		}
		if f, ok := expr.Form(tree, []string{"x"}); !ok || len(f.Kids) != 2 {
			t.Error("a deep tree has no formula")
		}
		expectWrong(t, times(n, x, func(t api.Tree) api.Tree { return of(kind, x, t) }))
	}
	expectWrong(t, times(n, x, not))
	expectWrong(t, times(n, x, func(t api.Tree) api.Tree { return of(api.TImp, t, x) }))
}

// expectWrong is expectRight without messages that tell a deep tree.
func expectWrong(t *testing.T, tree api.Tree) {
	t.Helper()
	f, ok := expr.Form(tree, []string{"x"})
	if expr.Right(tree) || expr.Text(tree) != "" || ok || f.Kind != api.False || len(f.Kids) > 0 {
		t.Error("a deep tree is valid")
	}
}
