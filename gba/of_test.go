package gba_test

import (
	"slices"
	"strconv"
	"strings"
	"testing"

	"plumbline/api"
	"plumbline/gba"
)

// TestP16_1Of: automata that the construction gives, step by step.
func TestP16_1Of(t *testing.T) {
	for _, x := range []struct{ f, want string }{
		{"true", "0; > 1; > 1"}, {"false", ""}, {"a", "0; 0 > 1; > 1"}, {"! a", "0; ! 0 > 1; > 1"}, {"! ! a", "0; 0 > 1; > 1"}, {"-7", "0; -7 > 1; > 1"}, {"! -7", "0; ! -7 > 1; > 1"},
		{"& a b", "0; 0 1 > 1; > 1"}, {"& b a", "0; 0 1 > 1; > 1"}, {"& 12 & -3 5", "0; -3 5 12 > 1; > 1"}, {"& ! 12 & ! -3 ! 5", "0; ! -3 5 12 > 1; > 1"}, {"& a ! b", "0; 0 ! 1 > 1; > 1"}, {"& a & b a", "0; 0 1 > 1; > 1"},
		{"| a b", "0 2; 0 > 1; > 1; 1 > 1"}, {"| b a", "0 2; 1 > 1; > 1; 0 > 1"}, {"| a false", "0; 0 > 1; > 1"}, {"| false a", "0; 0 > 1; > 1"}, {"| a a", "0; 0 > 1; > 1"}, {"-> a b", "0 2; ! 0 > 1; > 1; 1 > 1"}, {"! -> a b", "0; 0 ! 1 > 1; > 1"},
		{"X a", "0; > 1; 0 > 2; > 2"}, {"X X a", "0; > 1; > 2; 0 > 3; > 3"}, {"X false", "0; >"}, {"X true", "0; > 1; > 2; > 2"}, {"& X a X b", "0; > 1; 0 1 > 2; > 2"}, {"& a X a", "0; 0 > 1; 0 > 2; > 2"}, {"& X a X ! a", "0; >"},
		{"U a b", "0 2; 1 > 1; > 1; 0 > 0 2; {0 1}"}, {"F b", "0 2; 1 > 1; > 1; > 0 2; {0 1}"}, {"U a true", "0 2; > 1; > 1; 0 > 0 2; {0 1}"}, {"U a false", "0; 0 > 0; {}"}, {"U false b", "0; 1 > 1; > 1; {0 1}"}, {"U a a", "0 2; 0 > 1; > 1; 0 > 0 2; {0 1}"},
		{"R a b", "0 2; 0 1 > 1; > 1; 1 > 0 2"}, {"G b", "0; 1 > 0"}, {"R a false", ""}, {"R true b", "0 2; 1 > 1; > 1; 1 > 0 2"}, {"! U a b", "0 2; ! 0 1 > 1; > 1; ! 1 > 0 2"}, {"! R a b", "0 2; ! 1 > 1; > 1; ! 0 > 0 2; {0 1}"},
		{"G F a", "0 1; 0 > 0 1; > 0 1; {0}"}, {"F G a", "0 2; 0 > 1; 0 > 1; > 0 2; {0 1}"}, {"| a U b false", "0 2; 0 > 1; > 1; 1 > 3; 1 > 3; {0 1}"},
		// the same atom asked for and denied
		{"& a ! a", ""}, {"& ! a a", ""}, {"& a & b & c ! a", ""}, {"& ! -1 -1", ""}, {"G & a ! a", ""}, {"| b & a ! a", "0; 1 > 1; > 1"}, {"U & a ! a b", "0; 1 > 1; > 1; {0 1}"}, {"& -1 ! -2", "0; -1 ! -2 > 1; > 1"},
		// what does not count
		{"?", ""}, {"! ?", "0; > 1; > 1"}, {"| ? a", "0; 0 > 1; > 1"},
		// several U, and equal ones
		{"& U a b U a b", "0 2; 1 > 1; > 1; 0 > 3 4; 1 > 1; 0 > 3 4; {0 1 3}"}, {"& F a F a", "0 2; 0 > 1; > 1; > 3 4; 0 > 1; > 3 4; {0 1 3}"}, {"& false & U a b & U b a U a b", "; {}; {}"},
	} {
		g, e := gba.Of(prop(x.f))
		if e != api.OK {
			t.Errorf("%s: error %d", x.f, e)
		}
		nodes, _, _ := strings.Cut(x.want+";", "; {")
		expect(t, x.f, toldNodes(g), strings.TrimSuffix(nodes, ";"))
		if sets := strings.Count(x.want, "{"); len(g.Sets) != sets {
			t.Errorf("%s: %d Sets, not %d", x.f, len(g.Sets), sets)
		}
		ns, _, _ := construct(prop(x.f))
		expect(t, x.f+" by the construction", toldNodes(ns), toldNodes(g))
	}
	for _, x := range []struct {
		f    api.Ltl
		want string
	}{
		{of(api.TNot), "0; > 1; > 1"}, {of(api.TAnd, atom(0)), ""}, {of(api.TOr, atom(0)), "0; 0 > 1; > 1"}, {of(api.TOr), ""}, {of(api.TImp, atom(0)), "0; ! 0 > 1; > 1"}, {of(api.TImp), "0; > 1; > 1"}, {of(api.TNext), "0; >"}, {of(api.TAll), ""}, {of(api.TSome), "0; > 0"}, {of(api.TUntil, atom(0)), "0; 0 > 0"}, {of(api.TUntil), ""}, {of(api.TFree, atom(0)), ""},
		{of(api.TNot, atom(0), atom(1)), "0; ! 0 > 1; > 1"}, {of(api.TAnd, atom(0), atom(1), atom(2)), "0; 0 1 > 1; > 1"}, {of(api.TCmp, atom(3)), "0; 0 > 1; > 1"}, {of(api.TAt, atom(0)), ""}, {of(13), ""}, {of(-1), ""}, {not(of(-1)), "0; > 1; > 1"}, {api.Ltl{Kind: api.TAt, Prop: 3}, ""},
		// equal, as far as they count
		{of(api.TAnd, of(api.TSome, atom(0)), of(api.TSome, atom(0), atom(1))), "0 2; 0 > 1; > 1; > 3 4; 0 > 1; > 3 4"},
	} {
		g, e := gba.Of(x.f)
		expect(t, told(x.f), toldNodes(g), x.want)
		if e != api.OK || len(g.Sets) != untils(x.f) {
			t.Errorf("%s: error %d, %d Sets", told(x.f), e, len(g.Sets))
		}
	}
}

// TestP16_1OfByConstruction: nodes and Sets of many properties.
func TestP16_1OfByConstruction(t *testing.T) {
	most, without, full := 0, 0, 0
	for _, f := range slices.Concat(properties(3000, false), properties(3000, true), pairs()) {
		g, e := gba.Of(f)
		want, _, ok := construct(f)
		expect(t, told(f), toldNodes(g), toldNodes(want))
		if ok != (e == api.OK) || !ok && (e != api.ErrMany || len(g.Sets) > 0) {
			t.Errorf("%s: error %d", told(f), e)
		}
		if ok && len(g.Sets) != untils(f) {
			t.Errorf("%s: %d Sets, not %d", told(f), len(g.Sets), untils(f))
		}
		expectIncreasing(t, told(f), g)
		most = max(most, len(g.Sets))
		if len(g.Sets) == 0 {
			without++
		}
		if len(g.Nodes) > 10 {
			full++
		}
	}
	if most < 4 || without < 500 || full < 300 {
		t.Errorf("%d, %d, %d", most, without, full)
	}
}

// expectIncreasing expects that all lists are strictly increasing, and that all nodes
// exist.
func expectIncreasing(t *testing.T, what string, g gba.Gba) {
	t.Helper()
	lists := append([][]int{g.First}, g.Sets...)
	for _, n := range g.Nodes {
		lists = append(lists, n.Next)
	}
	for _, list := range lists {
		if len(list) > 0 && (list[0] < 0 || list[len(list)-1] >= len(g.Nodes)) {
			t.Errorf("%s: nodes %v of %d", what, list, len(g.Nodes))
		}
	}
	for _, n := range g.Nodes {
		lists = append(lists, n.Must, n.Never)
	}
	for _, list := range lists {
		for i := 1; i < len(list); i++ {
			if list[i-1] >= list[i] {
				t.Errorf("%s: %v", what, list)
			}
		}
	}
}

// chain is a property of kind, whose first kids are the properties of a function in
// order; the last one is the second kid of the last.
func chain(kind, n int, kid func(i int) api.Ltl) api.Ltl {
	f := kid(n - 1)
	for i := n - 2; i >= 0; i-- {
		f = of(kind, kid(i), f)
	}
	return f
}

// back is chain with all but the last kid in the first.
func back(kind, n int, kid func(i int) api.Ltl) api.Ltl {
	f := kid(0)
	for i := 1; i < n; i++ {
		f = of(kind, f, kid(i))
	}
	return f
}

// over is a property in kinds with one kid.
func over(n, kind int, f api.Ltl) api.Ltl {
	for range n {
		f = of(kind, f)
	}
	return f
}

func expectSize(t *testing.T, what string, f api.Ltl, nodes int, e api.Errno) {
	t.Helper()
	g, got := gba.Of(f)
	if got != e || len(g.Nodes) != nodes || e != api.OK && (len(g.First) > 0 || len(g.Sets) > 0) {
		t.Errorf("%s: %d nodes, error %d", what, len(g.Nodes), got)
	}
}

// TestP16_1MaxNodes: just 4096 nodes, and one more.
func TestP16_1MaxNodes(t *testing.T) {
	// n times X: a node for each X, one for a, and one for nothing
	expectSize(t, "4094 X", over(4094, api.TNext, atom(0)), api.MaxNodes, api.OK)
	expectSize(t, "4095 X", over(4095, api.TNext, atom(0)), 0, api.ErrMany)
	expectSize(t, "4094 X U", over(4094, api.TNext, prop("G F a")), api.MaxNodes, api.OK)
	expectSize(t, "4095 X U", over(4095, api.TNext, prop("G F a")), 0, api.ErrMany)
	// n atoms: a node for each, and one for nothing
	expectSize(t, "4095 |", chain(api.TOr, 4095, atom), api.MaxNodes, api.OK)
	expectSize(t, "4096 |", chain(api.TOr, 4096, atom), 0, api.ErrMany)
	expectSize(t, "4095 | back", back(api.TOr, 4095, atom), api.MaxNodes, api.OK)
	expectSize(t, "4096 | back", back(api.TOr, 4096, atom), 0, api.ErrMany)
}

// TestP16_1MostSteps: just 2^16 steps, and one more. Each family of properties takes a
// number of steps that grows evenly; how, the literal construction tells.
func TestP16_1MostSteps(t *testing.T) {
	const most = 1 << 16
	same := func(f api.Ltl) func(int) api.Ltl { return func(int) api.Ltl { return f } }
	fair := chain(api.TAnd, 4, func(i int) api.Ltl { return of(api.TAll, of(api.TSome, atom(i))) })
	counts := map[string][2]int{}
	for what, family := range map[string]func(n int) api.Ltl{
		"atoms":           func(n int) api.Ltl { return chain(api.TAnd, n, atom) },
		"atoms, back":     func(n int) api.Ltl { return back(api.TAnd, n, atom) },
		"atoms and a & a": func(n int) api.Ltl { return of(api.TAnd, chain(api.TAnd, n, atom), prop("& a a")) },
		"one atom":        func(n int) api.Ltl { return chain(api.TAnd, n, same(atom(4))) },
		"one atom, back":  func(n int) api.Ltl { return back(api.TAnd, n, same(atom(4))) },
		"equal kids":      func(n int) api.Ltl { return of(api.TAnd, chain(api.TAnd, n, atom), chain(api.TAnd, n, atom)) },
		"atoms at last":   func(n int) api.Ltl { return over(3, api.TNext, chain(api.TAnd, n, atom)) },
		"X of atoms":      func(n int) api.Ltl { return chain(api.TAnd, n, func(i int) api.Ltl { return of(api.TNext, atom(i)) }) },
		"denied at last":  func(n int) api.Ltl { return of(api.TAnd, chain(api.TAnd, n, atom), prop("! 0")) },
		"denied at first": func(n int) api.Ltl { return of(api.TAnd, prop("! 0"), back(api.TAnd, n, atom)) },
		"false":           func(n int) api.Ltl { return chain(api.TOr, n, same(prop("false"))) },
		"false, back":     func(n int) api.Ltl { return back(api.TOr, n, same(prop("false"))) },
		"R of false":      func(n int) api.Ltl { return chain(api.TFree, n, same(prop("false"))) },
		"U in false":      func(n int) api.Ltl { return chain(api.TUntil, n, same(prop("false"))) },
		"several U":       func(n int) api.Ltl { return of(api.TAnd, fair, chain(api.TAnd, n, same(prop("true")))) },
		"several U and a & a": func(n int) api.Ltl {
			return of(api.TAnd, of(api.TAnd, prop("& a a"), fair), chain(api.TAnd, n, same(prop("true"))))
		},
	} {
		steps := func(n int) int {
			_, all, _ := construct(family(n))
			return all
		}
		slope := steps(20) - steps(19)
		from := steps(20) - 20*slope
		if steps(40) != from+40*slope || slope < 1 {
			t.Fatalf("%s: %d, %d, %d steps", what, steps(19), steps(20), steps(40))
		}
		n := (most - from) / slope
		counts[what] = [2]int{from + slope*n, from + slope*(n+1)}
		t.Run(what, func(t *testing.T) {
			t.Parallel()
			if g, e := gba.Of(family(n)); e != api.OK {
				t.Errorf("%d steps, error %d, %d nodes", counts[what][0], e, len(g.Nodes))
			}
			expectSize(t, what, family(n+1), 0, api.ErrMany)
		})
	}
	just, more := false, false
	for _, count := range counts {
		just, more = just || count[0] == most, more || count[1] == most+1
	}
	if !just || !more {
		t.Errorf("%v", counts)
	}
}

// TestP16_1OfMuch: properties that are as deep and as large as the document admits.
func TestP16_1OfMuch(t *testing.T) {
	const n = 1 << 16
	for kind, count := range kidsOf {
		t.Run(strconv.Itoa(kind), func(t *testing.T) {
			t.Parallel()
			f := atom(0)
			for range n {
				f = of(kind, []api.Ltl{f, atom(1)}[:count]...)
			}
			g, e := gba.Of(f)
			if (e == api.OK) != (kind == api.TNot) || e != api.OK && e != api.ErrMany {
				t.Errorf("error %d, %d nodes", e, len(g.Nodes))
			}
			// what is dropped before it is taken only gives Sets
			deep := of(api.TAnd, prop("false"), f)
			g, e = gba.Of(deep)
			if e != api.OK || len(g.Nodes) != 0 || len(g.First) != 0 || len(g.Sets) != untilsIn(kind, n) {
				t.Errorf("error %d, %d nodes, %d Sets", e, len(g.Nodes), len(g.Sets))
			}
			g, e = gba.Of(of(api.TOr, atom(0), deep))
			if e != api.OK || len(g.Nodes) != 2 || len(g.Sets) != untilsIn(kind, n) || !gba.Takes(g, wordOf("1/0")) || gba.Takes(g, wordOf("0/1")) {
				t.Errorf("error %d, %d nodes, %d Sets", e, len(g.Nodes), len(g.Sets))
			}
		})
	}
	wide := chain(api.TAnd, n, func(i int) api.Ltl { return of(api.TSome, atom(i)) })
	g, e := gba.Of(of(api.TAnd, prop("false"), wide))
	if e != api.OK || len(g.Nodes) != 0 || len(g.Sets) != n {
		t.Errorf("error %d, %d Sets", e, len(g.Sets))
	}
}

// untilsIn is how many subproperties of kind TUntil there are in n of a kind within one
// another.
func untilsIn(kind, n int) int {
	if kind == api.TSome || kind == api.TUntil {
		return n
	}
	return 0
}

// TestP16_4OfMemory: arguments stay as they are, also beyond the length of their lists,
// and results do not change with them.
func TestP16_4OfMemory(t *testing.T) {
	whole := []api.Ltl{prop("U a b"), prop("G F c"), prop("! a")}
	for _, kind := range []int{api.TAnd, api.TOr, api.TNot, api.TNext, api.TUntil, api.TFree} {
		for n := range len(whole) + 1 {
			kids := slices.Clone(whole)
			f := api.Ltl{Kind: kind, Kids: kids[:n]}
			before := told(of(0, kids...))
			g, _ := gba.Of(f)
			expect(t, "argument", told(of(0, kids...)), before)
			want := toldGba(g)
			for i := range kids {
				kids[i] = atom(9)
			}
			expect(t, "result", toldGba(g), want)
		}
	}
	g, _ := gba.Of(prop("& G F a & G F b U ! a & b ! c"))
	expectOwnMemory(t, g)
}

// expectOwnMemory expects that no list shares memory with another, also beyond its
// length: each is overwritten up to its capacity, and still the others remain.
func expectOwnMemory(t *testing.T, g gba.Gba) {
	t.Helper()
	lists := []*[]int{&g.First}
	for i := range g.Sets {
		lists = append(lists, &g.Sets[i])
	}
	for i := range g.Nodes {
		n := &g.Nodes[i]
		lists = append(lists, &n.Must, &n.Never, &n.Next)
	}
	for i, list := range lists {
		before := toldGba(g)
		kept := *list
		all := kept[:cap(kept)]
		old := slices.Clone(all)
		for k := range all {
			all[k] = -1 - i
		}
		*list = old[:len(kept)]
		expect(t, "other lists", toldGba(g), before)
		copy(all, old)
		*list = kept
	}
}

// TestP16_1Again: the result of a call depends on its arguments only.
func TestP16_1Again(t *testing.T) {
	for i, f := range append(properties(200, true), prop("& G F a & F G b & U a | b X c R c F b")) {
		first, e := gba.Of(f)
		for range 5 {
			again, e2 := gba.Of(f)
			if e != e2 || toldGba(again) != toldGba(first) {
				t.Errorf("%d: %s, then %s", i, toldGba(first), toldGba(again))
			}
		}
	}
}

// TestP16_1SetsOfPlain: the Sets are those of different subproperties of kind TUntil,
// which F, and a negated R and G are too, and a negated U and F are not.
func TestP16_1SetsOfPlain(t *testing.T) {
	for text, want := range map[string]int{
		"U a b": 1, "F a": 1, "! G a": 1, "! R a b": 1, "! U a b": 0, "! F a": 0, "G a": 0, "R a b": 0, "! ! U a b": 1, "-> U a b false": 0, "-> R a b false": 1, "X X U a b": 1,
		"& F a F b": 2, "& F a F a": 1, "& F a U true a": 1, "| F a ! R false ! a": 1, "& F a ! G a": 2, "& F a ! G ! a": 1, "U U a b U b c": 3, "U U a b U a b": 2, "F F F a": 3, "G F G F a": 2, "! G F ! G F a": 2, "& U a b U b a": 2, "R U a b U a b": 1, "& X F a & F a | F a G F a": 1, "U a ! ! b": 1, "& F ? F false": 1, "& F a F ! a": 2, "& F -1 F -2": 2, "& false F a": 1,
	} {
		g, e := gba.Of(prop(text))
		if e != api.OK || len(g.Sets) != want || untils(prop(text)) != want {
			t.Errorf("%s: %d Sets, error %d", text, len(g.Sets), e)
		}
	}
	for _, x := range []struct {
		f    api.Ltl
		want int
	}{
		{of(api.TAnd, of(api.TUntil, atom(0)), of(api.TUntil, atom(0), of(api.TFalse))), 1}, {of(api.TAnd, of(api.TUntil), of(api.TUntil, of(99), of(-1))), 1}, {of(api.TAnd, of(api.TSome, atom(0)), of(api.TSome, atom(0), atom(1))), 1}, {of(api.TAnd, atom(0), atom(1), of(api.TSome, atom(0))), 0}, {of(99, of(api.TSome, atom(0))), 0}, {of(api.TCmp, of(api.TSome, atom(0))), 0},
	} {
		if g, e := gba.Of(x.f); e != api.OK || len(g.Sets) != x.want {
			t.Errorf("%s: %d Sets, error %d", told(x.f), len(g.Sets), e)
		}
	}
}
