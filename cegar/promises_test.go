package cegar_test

import (
	"fmt"
	"math/rand"
	"slices"
	"testing"

	"plumbline/api"
	"plumbline/cegar"
	"plumbline/decide"
	"plumbline/kripke"
	"plumbline/omega"
	"plumbline/term"
	"plumbline/word"
	"plumbline/wp"
	"plumbline/zint"
)

// someSystem has bounds or not, and often runs.
func someSystem(r *rand.Rand, confined bool, beyond int) api.Sys {
	s := randomSystem(r, confined, beyond)
	if r.Intn(3) == 0 {
		s = system(one(r, "1;0..1;true;0 0>0 / x := 1 - x", "1;0..2 0..2;true;0 0>0 / x := y, y := 2 - x", "1;0..5;x <= 2;0 0>0 / x := x + 1;0 0>0 x > 3 / x := x - 2", "2;-2..3;true;0 0>1 x < 2 / x := x + 1;0 1>0 / x := x - 2;0 0>0 x > 0 / x := -x;0 1>1 x > 1 / x := *", "1;0..2 0..2;x <= y;0 0>0 x < y / x := y, y := x;0 0>0 x >= y / y := *;0 0>0 x = y / x := 2 - x, y := x", "2 2;0..3;x = 1;0 0>1 x < 3 / x := x + 1;1 0>1 / x := 3 - x;0 1>0;1 1>0 x > 0 / x := x - 1"))
	}
	if r.Intn(3) > 0 {
		s.Init = api.Form{}
	}
	if !confined && r.Intn(4) == 0 {
		s = system(one(r, counter, resets, mutex, euclid, "1;free free;x = 0;0 0>0 / x := y, y := 3 - y;0 0>0 x > 2 / x := 0", "2;free;true;0 0>1 x < 3 / x := x + 1;0 1>0 / x := x - 2;0 0>0 x > 0 / x := *", "1;0..3 free;x = 0 & y = 0;0 0>0 / x := x + 1, y := y + x;0 0>0 y > 1 / y := 0", "2;free free;x > 0;0 0>1 / y := 2*x;0 1>0 y > 3 / x := x - 1;0 1>0 y <= 3 / x := x + 1"))
	}
	if !confined && r.Intn(3) == 0 {
		s.Bounds = nil
	}
	return s
}

// TestP25_3Confined: verdicts for small confined systems against their runs by the
// document's words: none of them violates a property that holds, and that which violates
// one is valid. The verdict is always known, and is that of the same questions.
func TestP25_3Confined(t *testing.T) {
	t.Parallel()
	r := rand.New(rand.NewSource(251))
	counts := map[string]int{}
	for range 1000 {
		s := someSystem(r, true, 0)
		all := fitting(s, 6)
		for range 3 {
			props := randomProps(r, len(s.Vars))
			f := randomLtl(r, len(props), r.Intn(4))
			result := cegar.Check(s, f, props, plenty)
			text := told(t, s, f, props, result)
			expect(t, fmt.Sprintf("%+v of %+v for %+v", f, props, s), text, checkByWords(s, f, props, plenty))
			if result.Verdict == api.Unknown || result.Rounds > 0 {
				t.Fatalf("%s: %+v of %+v for %+v", text, f, props, s)
			}
			counts[verdicts[result.Verdict]]++
			run, is, runs := violating(s, f, props, all, 4, 500)
			if is && result.Verdict != api.Violated {
				t.Fatalf("%s, but not for %s: %+v of %+v for %+v", text, toldRun(run), f, props, s)
			}
			if is {
				counts["by words"]++
			}
			if result.Why == "no initial state" && slices.ContainsFunc(all, func(x api.State) bool { return kripke.First(s, x) }) {
				t.Fatalf("there is an initial state of %+v", s)
			}
			if result.Verdict == api.Holds {
				counts["runs"] += runs
			}
		}
	}
	if counts["holds"] < 500 || counts["violated"] < 500 || counts["by words"]*10 < counts["violated"]*9 || counts["runs"] < 20000 {
		t.Errorf("%v", counts)
	}
}

// TestP25_1Free: the same for systems that are not confined, and their runs through small
// values, also with variables that the system does not have.
func TestP25_1Free(t *testing.T) {
	t.Parallel()
	r := rand.New(rand.NewSource(252))
	counts := map[string]int{}
	for i := range 400 {
		beyond := i % 2
		s := someSystem(r, false, beyond)
		all := fitting(s, 2)
		for range 2 {
			props := randomProps(r, len(s.Vars)+beyond)
			f := randomLtl(r, len(props), r.Intn(4))
			result := cegar.Check(s, f, props, 10000)
			text := told(t, s, f, props, result)
			if beyond == 0 {
				expect(t, fmt.Sprintf("%+v of %+v for %+v", f, props, s), text, checkByWords(s, f, props, 10000))
			}
			counts[result.Why]++
			counts[verdicts[result.Verdict]]++
			counts[fmt.Sprint("rounds ", min(result.Rounds, 3))]++
			run, is, runs := violating(s, f, props, all, 4, 200)
			if is && result.Verdict == api.Holds {
				t.Fatalf("%s, but not for %s: %+v of %+v for %+v", text, toldRun(run), f, props, s)
			}
			if result.Verdict == api.Holds {
				counts["runs"] += runs
			}
		}
	}
	if counts["holds"] < 150 || counts["violated"] < 150 || counts["abstraction"] < 150 || counts["refinement"] < 20 || counts["rounds 1"] < 150 || counts["rounds 2"] < 10 || counts["rounds 3"] < 10 || counts["runs"] < 5000 {
		t.Errorf("%v", counts)
	}
}

// TestP25_1BeyondByWords: a system with variables that it does not have has the same result
// as one in which they are replaced by 0.
func TestP25_1BeyondByWords(t *testing.T) {
	t.Parallel()
	r := rand.New(rand.NewSource(253))
	counts := map[string]int{}
	for range 250 {
		s := someSystem(r, r.Intn(3) == 0, 2)
		props := randomProps(r, len(s.Vars)+2)
		f := randomLtl(r, len(props), r.Intn(4))
		own := s
		own.Init = without(s.Init, len(s.Vars))
		own.Acts = nil
		for _, a := range s.Acts {
			a.Guard, a.Moves = without(a.Guard, len(s.Vars)), slices.Clone(a.Moves)
			for i := range a.Moves {
				a.Moves[i].T = withoutVars(a.Moves[i].T, len(s.Vars))
			}
			own.Acts = append(own.Acts, a)
		}
		var ownProps []api.Prop
		for _, p := range props {
			p.F = without(p.F, len(s.Vars))
			ownProps = append(ownProps, p)
		}
		result := cegar.Check(s, f, props, 10000)
		text := told(t, s, f, props, result)
		expect(t, fmt.Sprintf("%+v of %+v for %+v", f, props, s), text, checkByWords(own, f, ownProps, 10000))
		counts[result.Why]++
	}
	if counts["abstraction"] < 40 || counts["all states"] < 40 || counts["no initial state"] < 15 {
		t.Errorf("%v", counts)
	}
}

// without is a formula with 0 for the variables from n on, up to n + 2.
func without(f api.Form, n int) api.Form {
	f.R.T = withoutVars(f.R.T, n)
	f.Kids = slices.Clone(f.Kids)
	for i := range f.Kids {
		f.Kids[i] = without(f.Kids[i], n)
	}
	return f
}

func withoutVars(t api.Term, n int) api.Term {
	for v := n; v <= n+2; v++ {
		t = term.Put(t, v, api.Term{})
	}
	return t
}

// TestP25_4Negation: a property and its negation both hold only without an initial state,
// and are not both violated where there is only one run.
func TestP25_4Negation(t *testing.T) {
	t.Parallel()
	r := rand.New(rand.NewSource(254))
	counts := map[string]int{}
	for range 500 {
		s := someSystem(r, r.Intn(2) == 0, r.Intn(2))
		props := randomProps(r, len(s.Vars))
		f := randomLtl(r, len(props), r.Intn(4))
		other := one(r, word.Plain(f, true), api.Ltl{Kind: api.TNot, Kids: []api.Ltl{f}})
		yes, no := cegar.Check(s, f, props, 20000), cegar.Check(s, other, props, 20000)
		told(t, s, f, props, yes)
		told(t, s, other, props, no)
		counts[fmt.Sprint(verdicts[yes.Verdict], ", ", verdicts[no.Verdict])]++
		if yes.Verdict != api.Holds || no.Verdict != api.Holds {
			continue
		}
		all := fitting(s, 3)
		if decide.Sat(wp.Start(s, 0), 0, plenty).State == omega.Sat && slices.ContainsFunc(all, func(x api.State) bool { return kripke.First(s, x) }) {
			t.Fatalf("%+v of %+v and its negation hold for %+v", f, props, s)
		}
	}
	if counts["holds, violated"] < 70 || counts["violated, holds"] < 70 || counts["violated, violated"] < 8 || counts["holds, holds"] < 30 {
		t.Errorf("%v", counts)
	}
}

// TestP25_2MoreFuel: the results for all amounts of fuel, in increasing order.
func TestP25_2MoreFuel(t *testing.T) {
	t.Parallel()
	r := rand.New(rand.NewSource(255))
	counts := map[string]int{}
	for range 120 {
		s := someSystem(r, r.Intn(4) == 0, r.Intn(2))
		props := randomProps(r, len(s.Vars))
		f := randomLtl(r, len(props), r.Intn(4))
		whole := cegar.Check(s, f, props, 9000)
		used := 9000 - whole.Left
		known := false
		for fuel := 0; fuel <= 9000; fuel += 1 + r.Intn(max(used/4, 1)) {
			result := cegar.Check(s, f, props, fuel)
			text := told(t, s, f, props, result)
			if result.Why == "budget" && !known {
				counts["budget"]++
				continue
			}
			known = true
			if result.Verdict != whole.Verdict || result.Why != whole.Why || toldRun(result.Run) != toldRun(whole.Run) || fuel-result.Left != used {
				t.Fatalf("%s with %d, but %d, %s with %d: %+v of %+v for %+v", text, fuel, whole.Verdict, whole.Why, used, f, props, s)
			}
			counts[text[:8]]++
			if fuel > used+20 {
				fuel += 3000
			}
		}
	}
	if counts["budget"] < 150 || counts["holds: a"] < 60 || counts["violated"] < 60 {
		t.Errorf("%v", counts)
	}
}

// TestP25_1Memory: arguments stay as they are, and the run has memory of its own.
func TestP25_1Memory(t *testing.T) {
	for _, text := range []string{"2;4..6 0..3;x = 4 & y = 1;0 0>1 x < 6 / x := x + 1, y := *;0 1>0 / y := x - 4", "2;4..6 free;x = 4 & y = 1;0 0>1 x < 6 / x := x + 1, y := *;0 1>0 / y := x - 4"} {
		s := system(text)
		f, props := property(s, "G (y <= 2 & x <= 6) & F (x < 9 -> y = 7)")
		before := fmt.Sprintf("%+v %+v %+v", s, f, props)
		result := cegar.Check(s, f, props, plenty)
		expect(t, "arguments", fmt.Sprintf("%+v %+v %+v", s, f, props), before)
		if result.Verdict != api.Violated {
			t.Fatalf("%+v", result)
		}
		run := toldRun(result.Run)
		for _, b := range s.Bounds {
			spoil(b.Lo, b.Hi)
		}
		spoil(s.Acts[0].Moves[0].T.K, s.Acts[1].Moves[0].T.K, s.Init.Kids[0].R.T.K, s.Init.Kids[1].R.T.K, props[0].F.R.T.K)
		expect(t, "the run", toldRun(result.Run), run)
		all := slices.Concat(result.Run.Stem, result.Run.Cycle)
		for i, x := range all {
			rest := func() string { return toldRun(api.Run{Cycle: all[i+1:], Acts: result.Run.Acts}) }
			was := rest()
			for k := range x.Locs[:cap(x.Locs)] {
				x.Locs[:cap(x.Locs)][k] = 99
			}
			for k, val := range x.Vals {
				later := toldState(api.State{Vals: x.Vals[k+1:]})
				spoil(val)
				expect(t, "other values", toldState(api.State{Vals: x.Vals[k+1:]}), later)
			}
			for k := range x.Vals[:cap(x.Vals)] {
				x.Vals[:cap(x.Vals)][k] = zint.Of(99)
			}
			expect(t, "other states", rest(), was)
		}
	}
}

// spoil overwrites numbers.
func spoil(all ...api.Int) {
	for _, n := range all {
		for i := range n.Abs[:cap(n.Abs)] {
			n.Abs[:cap(n.Abs)][i] = 99
		}
	}
}
