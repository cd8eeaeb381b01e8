package cegar_test

import (
	"fmt"
	"math"
	"slices"
	"strings"
	"testing"

	"plumbline/api"
	"plumbline/buchi"
	"plumbline/cegar"
	"plumbline/kripke"
	"plumbline/ltl"
	"plumbline/model"
	"plumbline/word"
)

const (
	counter = "1;free;x = 0;0 0>0 / x := x + 1"
	resets  = "1;free;x = 0;0 0>0 / x := x + 1;0 0>0 / x := 0"
	count   = "1;0..3;x = 0;0 0>0 / x := x + 1" // 0, 1, 2, 3, and then stuck
	mutex   = "3 3;free;x = 0;0 0>1;0 1>2 x = 0;0 2>0 / x := 1;1 0>1;1 1>2 x = 1;1 2>0 / x := 0"
	euclid  = "1;free free;x > 0 & y > 0;0 0>0 x > y / x := x - y;0 0>0 y > x / y := y - x"
	// twelve conditions, so that Start has 4096 lists, too many for a question: only 0 is left
	hard = "x != 1 & x != 2 & x != 3 & x != 4 & x != 5 & x != 6 & x != 7 & x != 8 & x != 9 & x != 10 & x != 11 & x != 12"
)

// TestP25_1Examples: the document's examples, as texts.
func TestP25_1Examples(t *testing.T) {
	t.Parallel()
	for _, x := range []struct {
		property string
		holds    bool
	}{{"G x >= 0", true}, {"F x >= 3", true}, {"G x < 2", false}} {
		m, _, e := model.Parse("var x; init x = 0; proc p loc a; a -> a / x := x + 1; end")
		s, ok := model.System(m)
		tree, _, e2 := ltl.Parse(x.property, s)
		f, props, ok2 := ltl.Resolve(tree, s)
		if e != api.OK || e2 != api.OK || !ok || !ok2 {
			t.Fatal(e, e2)
		}
		if r := expectResult(t, s, f, props); (r.Verdict == api.Holds) != x.holds {
			t.Errorf("%s: %+v", x.property, r)
		}
	}
}

func TestP25_1Check(t *testing.T) {
	for _, x := range []struct {
		system, property string
		want             string
		rounds           int
	}{
		// no, one and several refinements
		{counter, "G x >= 0", "holds: abstraction", 1}, {counter, "F x >= 3", "holds: abstraction", 2}, {counter, "X x = 1", "holds: abstraction", 2}, {counter, "X X X x >= 3", "holds: abstraction", 2}, {counter, "F x >= 9", "holds: abstraction", 4}, {counter, "true", "holds: abstraction", 1}, {resets, "G x < 2", "violated: abstraction", 2}, {resets, "G x < 5", "violated: abstraction", 4}, {resets, "G (x >= 0 & X x >= 0)", "holds: abstraction", 1}, {resets, "G F x = 0", "unknown: refinement", 4}, {resets, "F x > 0", "violated: abstraction", 2},
		{mutex, "G !(@p0.c & @p1.c)", "holds: abstraction", 2}, {mutex, "G F @p0.c", "holds: abstraction", 3}, {mutex, "G (@p0.b -> X @p0.c)", "violated: abstraction", 2}, {mutex, "F @p1.c", "holds: abstraction", 3}, {mutex, "G (@p1.b | !@p1.b)", "holds: abstraction", 1}, {euclid, "G (x > 0 & y > 0)", "holds: abstraction", 1}, {"1;free free;x = 0 & y = 0;0 0>0 / x := x + 1, y := y + 1", "G x = y", "holds: abstraction", 1}, {"1;free free;x = 0 & y = 0;0 0>0 / x := x + 1, y := y + 1", "G (x <= 3 -> y <= 3)", "holds: abstraction", 3}, {"2;free;x > 5;0 0>0 x > 0 / x := x - 1;0 0>1 x = 0", "G (@p0.b -> x = 0)", "holds: abstraction", 1}, {"2;free;x > 5;0 0>0 x > 0 / x := x - 1;0 0>1 x <= 4", "F @p0.b", "unknown: refinement", 7},
		// no new predicate, and as many as there can be
		{counter, "false", "unknown: refinement", 1}, {counter, "G x < 2", "unknown: refinement", 6}, {counter, "F G x < 100", "unknown: refinement", 5}, {"1;free;x = 0;0 0>0", "false", "violated: abstraction", 1},
		// values that repeat after 1, 2, 4, 5 and 6 rounds of a lasso
		{"1;free;x = 7;0 0>0", "F x < 7", "violated: abstraction", 1}, {"1;free;x = 7;0 0>0 / x := -x", "false", "violated: abstraction", 1}, {"1;free free;x = 1 & y = 0;0 0>0 / x := y, y := -x", "false", "violated: abstraction", 1}, {"1;free free free free;x = 1 & y = 0 & z = 0 & u = 0;0 0>0 / x := y, y := z, z := u, u := x", "false", "violated: abstraction", 1}, {"1;free free free free free;x = 1 & y = 0 & z = 0 & u = 0 & v = 0;0 0>0 / x := y, y := z, z := u, u := v, v := x", "false", "unknown: refinement", 1}, {"1;free free;x = 1 & y = 0;0 0>0 / x := y, y := y - x", "false", "unknown: refinement", 1},
		// confined systems, each with a property that holds and one that does not
		{count, "F x = 3", "holds: all states", 0}, {count, "G x < 3", "violated: all states", 0}, {count, "G (x = 3 -> G x = 3)", "holds: all states", 0}, {"2 2;0..1;x = 0;0 0>1 x = 0 / x := 1;0 1>0;1 0>1 x = 1 / x := 0;1 1>0", "G (@p0.a | @p0.b)", "holds: all states", 0}, {"2 2;0..1;x = 0;0 0>1 x = 0 / x := 1;0 1>0;1 0>1 x = 1 / x := 0;1 1>0", "G !(@p0.b & @p1.b)", "violated: all states", 0}, {"1;-1..1 0..2;y = 2;0 0>0 / x := *, y := 1 - x", "G (x = 1 -> y = 0) | X y > 0", "violated: all states", 0}, {"1;-1..1 0..2;y = 2;0 0>0 / x := *, y := 1 - x", "X y <= 2", "holds: all states", 0}, {"1;123456789012345678901234567890..123456789012345678901234567893;true;0 0>0 / x := x + 1", "F G x = 123456789012345678901234567893", "holds: all states", 0}, {"1;123456789012345678901234567890..123456789012345678901234567893;true;0 0>0 / x := x + 1", "G F x = 123456789012345678901234567892", "violated: all states", 0},
		// no processes, no variables, no acts
		{";;true", "G true", "holds: all states", 0}, {";;true", "F false", "violated: all states", 0}, {";free;x > 4", "G x > 4", "holds: abstraction", 1}, {";free;x > 4", "G x > 5", "violated: abstraction", 1}, {";0..4;x > 3", "G x = 4", "holds: all states", 0}, {"2;;true;0 0>1;0 1>1", "F G @p0.b", "holds: all states", 0}, {"2;;true;0 0>1;0 1>1", "G @p0.a", "violated: all states", 0}, {"2;free;x = 1", "G (x = 1 & @p0.a)", "holds: abstraction", 1}, {"2;free;x = 1", "F @p0.b", "violated: abstraction", 1}, {"1;;true", "G @p0.a", "holds: all states", 0}, {"1 1;free;true", "G (@p0.a & @p1.a)", "holds: abstraction", 1},
		// bounds that are not set, of one variable and of all, and bounds that are too wide
		{"1;0..3 free;x = 0 & y = 0;0 0>0 / x := x + 1, y := y + x", "G x <= 3", "holds: abstraction", 1}, {"1;0..3 out;x = 0 & y = 0;0 0>0 / x := x + 1, y := y + x", "F x = 3", "holds: abstraction", 2}, {"1;0..3 free;x = 0 & y = 0;0 0>0 / x := x + 1, y := y + x", "G y < 3", "violated: abstraction", 2}, {"1;0..1048575;x = 0;0 0>0", "G x = 0", "holds: all states", 0}, {"1;0..1048576;x = 0;0 0>0", "G x = 0", "holds: abstraction", 1}, {"2;0..1048575;x = 0;0 0>0", "G x = 0", "holds: abstraction", 1}, {"2;0..524287;x = 0;0 0>1", "G x = 0", "holds: all states", 0}, {"2;0..1048575;x = 0;0 0>1", "G @p0.a", "violated: abstraction", 1},
		// stuck states
		{"2;free;x = 0;0 0>0 x < 3 / x := x + 1;0 0>1 x > 3", "G @p0.a & F x = 3", "holds: abstraction", 3}, {"2;free;x = 0;0 0>1 x < 3 / x := x + 1", "F G x = 0", "violated: abstraction", 1}, {"2;-5..9 free;x = 8;0 0>0 / x := x + 1", "F G x = 9", "holds: abstraction", 2},
		// no initial state
		{"0;free;true", "false", "holds: no initial state", 0}, {"1 0;0..3;true", "false", "holds: no initial state", 0}, {"1;free;x > 3 & x < 4", "false", "holds: no initial state", 0}, {"1;3..2;true", "G x = 1", "holds: no initial state", 0}, {"1;free 3..2;true", "false", "holds: no initial state", 0}, {"1;0..3;x > 3", "false", "holds: no initial state", 0}, {"1;free;false", "false", "holds: no initial state", 0}, {"1;free;2*x = 1", "false", "holds: no initial state", 0}, {";;false", "false", "holds: no initial state", 0}, {"1;4..2;false", "true", "holds: no initial state", 0},
	} {
		t.Run(x.property+" for "+x.system, func(t *testing.T) {
			t.Parallel()
			s := system(x.system)
			f, props := property(s, x.property)
			r := expectResult(t, s, f, props)
			expect(t, "the verdict", fmt.Sprint(verdicts[r.Verdict], ": ", r.Why, ", ", r.Rounds), fmt.Sprint(x.want, ", ", x.rounds))
		})
	}
	if cegar.Rounds != 40 {
		t.Error("the number of rounds")
	}
}

// tooLarge is a property whose negation has too large an automaton, and its atoms.
func tooLarge(atoms int) api.Ltl {
	all := api.Ltl{Kind: api.TOr}
	for i := range atoms {
		each := api.Ltl{Kind: api.TAll, Kids: []api.Ltl{{Kind: api.TSome, Kids: []api.Ltl{{Kind: api.TCmp, Prop: i}}}}}
		if i == 0 {
			all = each
			continue
		}
		all = api.Ltl{Kind: api.TOr, Kids: []api.Ltl{all, {Kind: api.TNot, Kids: []api.Ltl{each}}}}
	}
	return all
}

// many are so many atoms with one relation each.
func many(n int) []api.Prop {
	var texts []string
	for i := range n {
		texts = append(texts, fmt.Sprint("x >= ", i+1))
	}
	return props(strings.Join(texts, ";"))
}

// TestP25_1TooMuch: an automaton that is too large, and too many predicates, with fuel that
// is just enough for step 1.
func TestP25_1TooMuch(t *testing.T) {
	large, last := tooLarge(16), api.Ltl{Kind: api.TAll, Kids: []api.Ltl{{Kind: api.TNot, Kids: []api.Ltl{{Kind: api.TCmp, Prop: 20}}}}}
	if _, e := buchi.For(word.Plain(large, true)); e != api.ErrMany {
		t.Fatalf("the automaton is not too large: %d", e)
	}
	stays := "1;free;x = 0;0 0>0"
	for _, x := range []struct {
		system string
		f      api.Ltl
		atoms  int
		want   string
	}{
		{counter, large, 16, "unknown: automaton"}, {count, large, 16, "unknown: automaton"}, {counter, large, 25, "unknown: automaton"}, {counter, large, 0, "unknown: automaton"}, {"1;free;false", large, 16, "holds: no initial state"}, {"0;free;true", large, 25, "holds: no initial state"},
		{stays, last, 25, "unknown: predicates"}, {stays, last, 100, "unknown: predicates"}, {stays, api.Ltl{Kind: api.TTrue}, 25, "unknown: predicates"}, {stays, last, 24, "holds: abstraction"}, {count, last, 25, "holds: all states"}, {count, last, 100, "holds: all states"}, {"1;0..30;x = 20;0 0>0 / x := x + 1", last, 100, "violated: all states"}, {"1;free;x > 1 & x < 2", last, 25, "holds: no initial state"}, {stays, last, 21, "holds: abstraction"}, {stays, last, 3, "holds: abstraction"},
	} {
		s, atoms := system(x.system), many(x.atoms)
		r := cegar.Check(s, x.f, atoms, plenty)
		text := told(t, s, x.f, atoms, r)
		expect(t, fmt.Sprint(x.atoms, " atoms for ", x.system), fmt.Sprint(verdicts[r.Verdict], ": ", r.Why), x.want)
		expect(t, fmt.Sprint(x.atoms, " atoms for ", x.system), text, checkByWords(s, x.f, atoms, plenty))
		if r.Verdict == api.Unknown && r.Left < plenty-10 {
			t.Errorf("%d consumed by step 1 for %s", plenty-r.Left, x.system)
		}
		for _, more := range []int{-2, -1, 0, 1} {
			fuel := plenty - r.Left + more
			got := told(t, s, x.f, atoms, cegar.Check(s, x.f, atoms, fuel))
			expect(t, fmt.Sprint(x.atoms, " atoms for ", x.system, " with ", fuel), got, checkByWords(s, x.f, atoms, fuel))
		}
	}
}

// TestP25_1Fuel: all amounts of fuel, up to more than enough, for each of the steps.
func TestP25_1Fuel(t *testing.T) {
	large := tooLarge(16)
	for _, x := range []struct{ system, property, want string }{
		{"1;free;x > 3 & x < 4", "false", "holds: no initial state"}, {"1;0..9 free;x < 3 & y > 4 & x + y < 3 & x > 1", "false", "holds: no initial state"}, {"1;free;x > 3 & x < 5", "", "unknown: automaton"}, {"0;free;true", "false", "holds: no initial state"},
		{count, "F x = 3", "holds: all states"}, {count, "G x < 3", "violated: all states"}, {counter, "G x >= 0", "holds: abstraction"}, {counter, "F x >= 3", "holds: abstraction"}, {resets, "G x < 2", "violated: abstraction"}, {counter, "false", "unknown: refinement"}, {resets, "F x > 0", "violated: abstraction"},
	} {
		s := system(x.system)
		f, atoms := large, []api.Prop(nil)
		if x.property != "" {
			f, atoms = property(s, x.property)
		}
		whole := cegar.Check(s, f, atoms, plenty)
		used := plenty - whole.Left
		expect(t, x.property+" for "+x.system, fmt.Sprint(verdicts[whole.Verdict], ": ", whole.Why), x.want)
		step := max(1, used/60)
		for fuel := -3; fuel < used+5; fuel++ {
			if fuel > 40 && fuel%step != 0 && fuel < used-3 {
				continue
			}
			r := cegar.Check(s, f, atoms, fuel)
			got := told(t, s, f, atoms, r)
			expect(t, fmt.Sprint(x.property, " for ", x.system, " with ", fuel), got, checkByWords(s, f, atoms, fuel))
			if budget := r.Why == "budget"; budget != (max(fuel, 0) < used) || budget && r.Left > 0 {
				t.Errorf("%s for %s with %d of %d: %s", x.property, x.system, fuel, used, got)
			}
			if r.Why != "budget" && (r.Left != max(fuel, 0)-used || toldRun(r.Run) != toldRun(whole.Run) || r.Rounds != whole.Rounds) {
				t.Errorf("%s for %s with %d of %d: %s, %s", x.property, x.system, fuel, used, got, toldRun(r.Run))
			}
		}
	}
}

// TestP25_1Limits: fuel at its limits.
func TestP25_1Limits(t *testing.T) {
	for _, text := range []string{"0;free;true", counter, count, "1;free;false"} {
		s := system(text)
		f, atoms := property(s, "G true")
		used := plenty - cegar.Check(s, f, atoms, plenty).Left
		for _, x := range []struct{ fuel, counts int }{{api.MaxFuel, api.MaxFuel}, {api.MaxFuel - 1, api.MaxFuel - 1}, {api.MaxFuel + 1, api.MaxFuel}, {math.MaxInt, api.MaxFuel}, {-1, 0}, {0, 0}, {math.MinInt, 0}, {used, used}} {
			want := fmt.Sprint(api.Holds, max(x.counts-used, 0))
			if x.counts < used {
				want = fmt.Sprint(api.Unknown, 0)
			}
			r := cegar.Check(s, f, atoms, x.fuel)
			expect(t, fmt.Sprint(text, " with ", x.fuel), fmt.Sprint(r.Verdict, r.Left), want)
		}
	}
}

// TestP25_1Unanswered: questions that Sat does not answer. That about an initial state
// counts as one that there can be; it is not one that had too little fuel.
func TestP25_1Unanswered(t *testing.T) {
	t.Parallel()
	for _, x := range []struct {
		system, property, want string
		used                   int // at least
	}{
		{"1;0..12;" + hard + ";0 0>0", "G x = 0", "holds: all states", 4000}, {"1;0..13;" + hard + ";0 0>0", "G x = 0", "violated: all states", 4000}, {"1;1..12;" + hard, "false", "holds: all states", 4000}, {"1;1..12;" + hard + " & x != 13 & x != 14", "F x = 3", "holds: all states", 4000}, {"1;free;" + hard + ";0 0>0 / x := *", "G x >= 0", "violated: abstraction", 4000 + 4000}, {"1;free;" + hard + " & x != 13;0 0>0 / x := *", "X true", "holds: abstraction", 4000 + 4000}, {"1;free;" + hard + " & x != 13;0 0>0", "false", "unknown: refinement", 4000 + 4000 + 40000*14},
	} {
		s := system(x.system)
		f, atoms := property(s, x.property)
		r := expectResult(t, s, f, atoms)
		if used := plenty - r.Left; fmt.Sprint(verdicts[r.Verdict], ": ", r.Why) != x.want || used < x.used {
			t.Errorf("%s for %s: %s: %s, %d consumed", x.property, x.system, verdicts[r.Verdict], r.Why, used)
		}
		for fuel, want := range map[int]string{3999: "unknown: budget, 0 rounds, 0 left", 100: "unknown: budget, 0 rounds, 0 left", 0: "unknown: budget, 0 rounds, 0 left"} {
			expect(t, fmt.Sprint(x.system, " with ", fuel), told(t, s, f, atoms, cegar.Check(s, f, atoms, fuel)), want)
		}
		if r := cegar.Check(s, f, atoms, 4000); r.Left != 0 || (r.Why == "budget") == (x.system[:3] == "1;1") || (r.Rounds == 1) != (x.system[:6] == "1;free") {
			t.Errorf("%s with 4000: %+v", x.system, r)
		}
	}
}

// ring is a system without bounds whose process goes round some locations, and counts.
func ring(locs int, count bool) api.Sys {
	s := system("0;free;x = 0;0 0>0;0 0>0 / x := x + 1")
	s.Procs[0].Locs = make([]string, locs)
	a := s.Acts[0]
	if count {
		a = s.Acts[1]
	}
	s.Acts = nil
	for i := range locs {
		a.From, a.To = i, (i+1)%locs
		s.Acts = append(s.Acts, a)
	}
	return s
}

// TestP25_1LongPaths: lassos with too long paths: of one round, of two and of all four.
func TestP25_1LongPaths(t *testing.T) {
	t.Parallel()
	for _, x := range []struct {
		locs  int
		count bool
		want  string
	}{{4095, false, "violated: abstraction"}, {4096, false, "unknown: budget"}, {2048, true, "unknown: budget"}, {1500, true, "unknown: budget"}, {300, true, "unknown: refinement"}} {
		s := ring(x.locs, x.count)
		r := cegar.Check(s, api.Ltl{Kind: api.TFalse}, nil, plenty)
		text := told(t, s, api.Ltl{Kind: api.TFalse}, nil, r)
		if fmt.Sprint(verdicts[r.Verdict], ": ", r.Why) != x.want || r.Rounds != 1 || r.Left == 0 {
			t.Errorf("%d locations: %s", x.locs, text)
		}
	}
}

// TestP25_1Beyond: variables that a system does not have are 0, in Init, guards, terms and
// atoms.
func TestP25_1Beyond(t *testing.T) {
	atLeast := func(v string, n int) []api.Prop { return props(fmt.Sprint(v, " >= ", n)) }
	never := api.Ltl{Kind: api.TAll, Kids: []api.Ltl{{Kind: api.TNot, Kids: []api.Ltl{{Kind: api.TCmp}}}}}
	always := api.Ltl{Kind: api.TAll, Kids: []api.Ltl{{Kind: api.TCmp}}}
	for _, x := range []struct {
		system string
		f      api.Ltl
		props  []api.Prop
		want   string
	}{
		// y would be the value of x after a step
		{"1;free;x = 0;0 0>0;0 0>0 y <= 0 / x := x + 1", never, atLeast("x", 1), "violated: abstraction"}, {"1;free;x = 0;0 0>0 y >= 1 / x := x + 1", never, atLeast("x", 1), "holds: abstraction"}, {"1;free;x = 0;0 0>0 y >= 1 / x := x + 1;0 0>0 y < 0 & z >= 0", never, atLeast("x", 1), "holds: abstraction"}, {"1;free;x = 0;0 0>0;0 0>0 / x := x + y + 1", never, atLeast("x", 1), "violated: abstraction"}, {"1;free;x = 0;0 0>0 / x := x + 1;0 0>0", always, atLeast("y", 0), "holds: abstraction"}, {"1;free;x = 0;0 0>0;0 0>0 / x := x - 1", never, atLeast("y", 0), "violated: abstraction"}, {"1;free;x = 0;0 0>0;0 0>0 / x := x - 1", never, props("x + y < 0"), "violated: abstraction"}, {"1;free;y = 0 & x = 3;0 0>0 / x := y", never, atLeast("x", 4), "holds: abstraction"},
		{"1;free;y = 1;0 0>0", never, atLeast("x", 4), "holds: no initial state"}, {"1;0..3;y = 1;0 0>0", never, atLeast("x", 4), "holds: no initial state"}, {"1;0..3;x = 0;0 0>0 y < 1 / x := x + y + 1", never, atLeast("x", 3), "violated: all states"}, {"1;0..3;x = 0;0 0>0 y >= 1 / x := x + y + 1", never, atLeast("x", 3), "holds: all states"},
		{";;true", always, atLeast("x", 0), "holds: all states"}, {"1;free;x = 0;0 0>0", never, slices.Concat(atLeast("x", 1), many(23)), "holds: abstraction"},
	} {
		s := system(x.system)
		r := cegar.Check(s, x.f, x.props, plenty)
		told(t, s, x.f, x.props, r)
		expect(t, x.system, fmt.Sprint(verdicts[r.Verdict], ": ", r.Why), x.want)
	}
}

// TestP25_1Unfit: systems and properties that no text has.
func TestP25_1Unfit(t *testing.T) {
	always := api.Ltl{Kind: api.TAll, Kids: []api.Ltl{{Kind: api.TCmp}}}
	for _, x := range []struct {
		system, atoms string
		f             api.Ltl
		want          string
	}{
		// acts that are not sound lead nowhere
		{"1;free;x = 0;0 0>1 / x := 1;3 0>0 / x := 1;0 0>0 / 1 := *, x := 1;0 0>0 / -1 := *, x := 1", "x = 0", always, "holds: abstraction"}, {"1;0..1;x = 0;0 0>1 / x := 1;3 0>0 / x := 1;0 0>0 / 1 := *, x := 1;0 0>0 / -1 := *, x := 1", "x = 0", always, "holds: all states"}, {"1;free;x = 0;0 0>0 / x := 0, x := 1;0 0>0 / x := 0, x := *", "x = 0", always, "holds: abstraction"},
		// atoms that do not exist, missing kids, and unknown kinds
		{counter, "", always, "unknown: refinement"}, {count, "", always, "violated: all states"}, {"1;free;x = 0;0 0>0", "", always, "violated: abstraction"}, {"1;free;x = 0;0 0>0", "x = 0", api.Ltl{Kind: api.TAll}, "violated: abstraction"}, {"1;free;x = 0;0 0>0", "x = 0", api.Ltl{Kind: api.TNot}, "holds: abstraction"}, {count, "x = 0", api.Ltl{Kind: api.TNot}, "holds: all states"}, {count, "x = 0", api.Ltl{Kind: 77}, "violated: all states"}, {count, "x = 0", api.Ltl{Kind: -1}, "violated: all states"}, {count, "x = 0", api.Ltl{Kind: api.TCmp, Prop: -1}, "violated: all states"}, {count, "x = 0", api.Ltl{Kind: api.TCmp, Prop: math.MaxInt}, "violated: all states"}, {"1;free;x = 0;0 0>0", "x = 0; 0@0; 5@0; -1@0", api.Ltl{Kind: api.TAnd, Kids: []api.Ltl{{Kind: api.TCmp, Prop: 1}, {Kind: api.TNot, Kids: []api.Ltl{{Kind: api.TCmp, Prop: 2}}}}}, "holds: abstraction"},
		// conditions that always and never hold
		{"1;free;true;0 0>0", "0 >= 0", always, "holds: abstraction"}, {"1;free;true;0 0>0", "2*x = 1", always, "violated: abstraction"},
	} {
		s, atoms := system(x.system), props(x.atoms)
		r := expectResult(t, s, x.f, atoms)
		expect(t, fmt.Sprint(x.f, " for ", x.system), fmt.Sprint(verdicts[r.Verdict], ": ", r.Why), x.want)
	}
	if r := cegar.Check(api.Sys{}, api.Ltl{}, nil, 100); r.Verdict != api.Holds || !kripke.First(api.Sys{}, api.State{}) {
		t.Errorf("%+v", r)
	}
}
