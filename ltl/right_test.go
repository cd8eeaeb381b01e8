package ltl_test

import (
	"fmt"
	"math"
	"math/rand"
	"strings"
	"testing"

	"plumbline/api"
	"plumbline/ltl"
)

// wrongTrees are not valid, each for one reason.
func wrongTrees() []api.Tree {
	x := is("x", "1")
	all := append(wrongSums(), wrongNames()...)
	for _, kind := range []int{-1, 13, 14, math.MaxInt, math.MinInt} { // no kinds
		all = append(all, of(kind), of(kind, x), of(kind, x, x), api.Tree{Kind: kind, L: x.L, R: x.R}, api.Tree{Kind: kind, Proc: "p", Loc: "a"})
	}
	for _, kind := range append([]int{api.TTrue, api.TFalse, api.TCmp, api.TAt}, append(singles, doubles...)...) { // other numbers of kids
		for n := range 4 {
			if want, ok := map[int]int{api.TTrue: 0, api.TFalse: 0, api.TNot: 1, api.TNext: 1, api.TAll: 1, api.TSome: 1}[kind]; n != 2 && !ok || ok && n != want {
				all = append(all, of(kind, []api.Tree{x, x, x}[:n]...))
			}
		}
	}
	for _, right := range []api.Tree{yes(), no(), of(api.TNot, x), of(api.TAnd, x, x), of(api.TOr, x, x), of(api.TImp, x, x), of(api.TNext, x), of(api.TAll, x), of(api.TSome, x), of(api.TUntil, x, x), of(api.TFree, x, x)} {
		for _, other := range []api.Tree{{L: many(1)}, {R: many(1)}, {L: make([]api.Mono, 1)}, {Op: 1}, {Op: -1}, {Proc: "p"}, {Loc: "a"}, {Proc: "p", Loc: "a"}} { // fields that the kinds do not have
			other.Kind, other.Kids = right.Kind, right.Kids
			all = append(all, other)
		}
	}
	for _, change := range []func(*api.Tree){
		func(t *api.Tree) { t.L = many(1) }, func(t *api.Tree) { t.R = many(1) }, func(t *api.Tree) { t.L, t.R = x.L, x.R }, func(t *api.Tree) { t.Op = 1 }, func(t *api.Tree) { t.Op = math.MinInt }, func(t *api.Tree) { t.Kids = []api.Tree{yes()} }, func(t *api.Tree) { t.Kids = []api.Tree{x, x} }, func(t *api.Tree) { t.R = make([]api.Mono, 1) },
	} {
		t := at("p", "a")
		change(&t)
		all = append(all, t)
	}
	return append(all, tooDeep()...)
}

// wrongSums are comparisons that are not valid.
func wrongSums() []api.Tree {
	x := is("x", "1")
	var all []api.Tree
	for _, change := range []func(*api.Tree){
		func(t *api.Tree) { t.L = nil }, func(t *api.Tree) { t.R = []api.Mono{} }, func(t *api.Tree) { t.L = many(65) }, func(t *api.Tree) { t.R = many(65) }, func(t *api.Tree) { t.Op = -1 }, func(t *api.Tree) { t.Op = 6 }, func(t *api.Tree) { t.Op = math.MaxInt },
		func(t *api.Tree) { t.Proc = "p" }, func(t *api.Tree) { t.Loc = "a" }, func(t *api.Tree) { t.Kids = []api.Tree{yes()} }, func(t *api.Tree) { t.Kind = api.TAt },
		func(t *api.Tree) { t.L = sum(plus("", "")) }, func(t *api.Tree) { t.R = sum(plus("01", "x")) }, func(t *api.Tree) { t.L = sum(plus("-1", "")) }, func(t *api.Tree) { t.L = append(many(2), plus("2", "in")) }, func(t *api.Tree) { t.R = sum(plus("", "X")) }, func(t *api.Tree) { t.R = sum(plus("", "x y")) }, func(t *api.Tree) { t.R = sum(plus(strings.Repeat("1", 61), "")) },
	} {
		t := x
		change(&t)
		all = append(all, t)
	}
	return all
}

// wrongNames are places of which a name is not valid.
func wrongNames() []api.Tree {
	var all []api.Tree
	for _, name := range []string{"", "true", "false", "var", "in", "init", "proc", "loc", "end", "X", "U", "_p", "1", "1p", " p", "p ", "p.a", "p a", "é", "\xff", "p\x00", strings.Repeat("p", 21), "-p", "p#", "@p", "P"} {
		all = append(all, at(name, "a"), at("p", name), at(name, name))
	}
	return all
}

// deep is t with n levels of some signs in turn.
func deep(n int, t api.Tree, kinds ...int) api.Tree {
	for i := range n {
		t = of(kinds[i%len(kinds)], t)
	}
	return t
}

// justDeep are trees of 60 levels.
func justDeep() []api.Tree { return nested(60) }

// tooDeep are trees of 61 levels.
func tooDeep() []api.Tree { return nested(61) }

// nested are trees of n levels.
func nested(n int) []api.Tree {
	x, p := is("x", "1"), at("p", "a")
	all := []api.Tree{deep(n, p, singles...), deep(n, yes(), api.TAll, api.TSome)}
	for _, kind := range singles {
		all = append(all, deep(n, x, kind), deep(n-1, of(api.TUntil, x, x), kind), deep(n-2, of(kind, of(api.TImp, x, x)), kind))
	}
	enclosing := func(t api.Tree, parent, kid, i int) api.Tree { // t in the kid, and the kid in parentheses as the kid i of the parent
		kids := []api.Tree{x, x}
		kids[i] = of(kid, x, t)
		return of(parent, kids...)
	}
	for _, e := range [][3]int{ // all pairs of kinds with two kids of which the kid is in parentheses
		{api.TAnd, api.TOr, 0}, {api.TAnd, api.TImp, 0}, {api.TAnd, api.TAnd, 1}, {api.TAnd, api.TOr, 1}, {api.TAnd, api.TImp, 1}, {api.TOr, api.TImp, 0}, {api.TOr, api.TOr, 1}, {api.TOr, api.TImp, 1}, {api.TImp, api.TImp, 0},
		{api.TUntil, api.TAnd, 0}, {api.TUntil, api.TOr, 0}, {api.TUntil, api.TImp, 0}, {api.TUntil, api.TUntil, 0}, {api.TUntil, api.TFree, 0}, {api.TUntil, api.TAnd, 1}, {api.TUntil, api.TOr, 1}, {api.TUntil, api.TImp, 1},
		{api.TFree, api.TAnd, 0}, {api.TFree, api.TOr, 0}, {api.TFree, api.TImp, 0}, {api.TFree, api.TUntil, 0}, {api.TFree, api.TFree, 0}, {api.TFree, api.TAnd, 1}, {api.TFree, api.TOr, 1}, {api.TFree, api.TImp, 1},
	} {
		all = append(all, enclosing(deep(n-1, p, singles...), e[0], e[1], e[2]), deep(n-2, enclosing(x, e[0], e[1], e[2]), api.TNext))
	}
	for _, kind := range doubles {
		all = append(all, of(kind, deep(n, x, singles...), x), of(kind, x, deep(n, yes(), api.TNot)))
	}
	return append(all,
		times(n, x, func(t api.Tree) api.Tree { return of(api.TAnd, of(api.TOr, t, x), x) }),
		times(n, x, func(t api.Tree) api.Tree { return of(api.TUntil, of(api.TImp, x, t), x) }),
		of(api.TAnd, deep(n, p, api.TAll), deep(n-1, p, api.TAll)), of(api.TAnd, deep(n-1, p, api.TAll), deep(n, p, api.TAll)),
	)
}

// levels are those of the text of a tree.
func levels(t api.Tree) int {
	most, open := 0, []string{}
	shut := func(sign string) {
		for len(open) > 0 && open[len(open)-1] == sign {
			open = open[:len(open)-1]
		}
	}
	for _, token := range tokens(printed(t)) {
		switch token.Text {
		case "!", "X", "G", "F":
			open = append(open, "un")
		case "(":
			open = append(open, "(")
		case ")":
			shut("un")
			open = open[:len(open)-1]
			shut("un")
		case "&", "|", "->", "U", "R":
			shut("un")
		}
		most = max(most, len(open))
	}
	return most
}

func expectRight(t *testing.T, tree api.Tree, want bool) {
	t.Helper()
	if got := ltl.Right(tree); got != want {
		t.Errorf("Right(%.600s) = %v", told(tree), got)
	}
	text := ""
	if want {
		text = printed(tree)
	}
	expect(t, told(tree), ltl.Text(tree), text)
	if f, atoms, ok := ltl.Resolve(tree, system()); !want && (ok || told(f) != told(api.Ltl{}) || len(atoms) > 0) {
		t.Errorf("Resolve(%.600s) = %v, %v, %v", told(tree), f, atoms, ok)
	}
}

func TestP14_1Right(t *testing.T) {
	for _, tree := range append(append(trees(3000), justDeep()...), is("v", "1"), at("s", "t"), api.Tree{Kind: 1, L: []api.Mono{}, R: many(3)[:0], Kids: []api.Tree{}}, api.Tree{Kind: api.TAt, Proc: "p", Loc: "p", L: []api.Mono{}, Kids: []api.Tree{}}) {
		expectRight(t, tree, true)
	}
	x := is("x", "1")
	for _, wrong := range wrongTrees() {
		expectRight(t, wrong, false)
		for _, kind := range singles {
			expectRight(t, of(kind, wrong), false)
		}
		for _, kind := range doubles {
			expectRight(t, of(kind, wrong, x), false)
			expectRight(t, of(kind, x, wrong), false)
		}
		expectRight(t, of(api.TImp, of(api.TAll, x), of(api.TUntil, x, of(api.TSome, wrong))), false)
	}
}

// TestP14_1RightLevels: the trees that are made for these tests have as many levels as
// it is said of them.
func TestP14_1RightLevels(t *testing.T) {
	for n, all := range map[int][]api.Tree{60: justDeep(), 61: tooDeep()} {
		for _, tree := range all {
			if levels(tree) != n {
				t.Errorf("%d levels, not %d: %s", levels(tree), n, printed(tree))
			}
		}
	}
}

// TestP14_1RightByParsing: a tree is valid exactly if its text, as it would be
// written, is parsed back to it.
func TestP14_1RightByParsing(t *testing.T) {
	r := rand.New(rand.NewSource(9))
	wrong := wrongTrees()
	counts := map[bool]int{}
	everything := system()
	everything.Procs = []api.Proc{proc("p", "a", "b", "q"), proc("q", "a", "b", "q")}
	for _, tree := range trees(6000) {
		spoil(r, &tree, wrong)
		want := readIn(printed(tree), everything) == told(tree)
		expectRight(t, tree, want)
		counts[want]++
	}
	if counts[true] < 700 || counts[false] < 700 {
		t.Errorf("%v", counts)
	}
}

// spoil changes one of the subtrees, or none.
func spoil(r *rand.Rand, t *api.Tree, wrong []api.Tree) {
	if len(t.Kids) > 0 && r.Intn(3) > 0 {
		spoil(r, &t.Kids[r.Intn(len(t.Kids))], wrong)
		return
	}
	switch other := one(r, wrong...); r.Intn(12) {
	case 0:
		*t = other
	case 1:
		t.Kind = r.Intn(13)
	case 2:
		t.Kids = append(t.Kids, other)
	case 3:
		t.L = append(t.L, other.L...)
	case 4:
		t.Op += r.Intn(3) - 1
	case 5:
		t.Proc = other.Proc
	case 6, 7:
		*t = deep(50+r.Intn(15), *t, singles...)
	}
}

// TestP14_1DeepTrees: there is no limit on what needs no parentheses.
func TestP14_1DeepTrees(t *testing.T) {
	const n = 1 << 16
	x := is("x", "1")
	for kind, sign := range map[int]string{api.TAnd: " & ", api.TOr: " | "} {
		expectDeep(t, times(n, x, func(t api.Tree) api.Tree { return of(kind, t, x) }), strings.Repeat("x = 1"+sign, n)+"x = 1")
		expectDeep(t, times(n, x, func(t api.Tree) api.Tree { return of(kind, x, t) }), "")
	}
	for kind, sign := range map[int]string{api.TImp: " -> ", api.TUntil: " U ", api.TFree: " R "} {
		expectDeep(t, times(n, x, func(t api.Tree) api.Tree { return of(kind, x, t) }), strings.Repeat("x = 1"+sign, n)+"x = 1")
		expectDeep(t, times(n, x, func(t api.Tree) api.Tree { return of(kind, t, x) }), "")
	}
	for _, kind := range singles {
		expectDeep(t, above(n, kind, x), "")
	}
}

// expectDeep expects a text, or "" of a tree that is not valid, without messages that
// tell a deep tree.
func expectDeep(t *testing.T, tree api.Tree, want string) {
	t.Helper()
	f, atoms, ok := ltl.Resolve(tree, system())
	if ltl.Right(tree) != (want != "") || ltl.Text(tree) != want || ok != (want != "") {
		t.Errorf("a deep tree of kind %d: %v", tree.Kind, ok)
	}
	if ok && (len(f.Kids) != 2 || len(atoms) != 1) || !ok && fmt.Sprint(f, atoms) != fmt.Sprint(api.Ltl{}, []api.Prop{}) {
		t.Errorf("a deep tree of kind %d is resolved to kind %d", tree.Kind, f.Kind)
	}
}
