package abstr_test

import (
	"fmt"
	"math/rand"
	"slices"
	"testing"

	"plumbline/abstr"
	"plumbline/api"
	"plumbline/kripke"
	"plumbline/zint"
)

// sorted are abstract states in their order, each once.
func sorted(all []abstr.Abs) []abstr.Abs {
	slices.SortFunc(all, abstr.Cmp)
	return slices.CompactFunc(all, abstr.Same)
}

// stepsAmong are the steps from an abstract state that come from steps among states.
func stepsAmong(s api.Sys, ps []api.Rel, a abstr.Abs, all []api.State) []abstr.Step {
	own := slices.DeleteFunc(slices.Clone(all), func(x api.State) bool { return !abstr.Same(abstr.Of(ps, x), a) })
	var steps []abstr.Step
	for act := range s.Acts {
		var to []abstr.Abs
		for _, x := range own {
			for _, y := range all {
				if kripke.Leads(s, x, act, y) {
					to = append(to, abstr.Of(ps, y))
				}
			}
		}
		for _, b := range sorted(to) {
			steps = append(steps, abstr.Step{Act: act, To: b})
		}
	}
	if slices.ContainsFunc(own, func(x api.State) bool { return kripke.Stuck(s, x) }) {
		steps = append(steps, abstr.Step{Act: -1, To: a})
	}
	return steps
}

// TestP21_2Exact: systems with bounds that are so small that all answers are known. Their
// abstract initial states and steps are exactly those of all their states.
func TestP21_2Exact(t *testing.T) {
	r := rand.New(rand.NewSource(5))
	starts, steps := 0, 0
	for range 400 {
		s := randomSystem(r, true)
		ps := randomPreds(r, len(s.Vars), 3)
		all := fitting(s, 6)
		var initial, known []abstr.Abs
		for _, x := range all {
			known = append(known, abstr.Of(ps, x))
			if kripke.First(s, x) {
				initial = append(initial, abstr.Of(ps, x))
			}
		}
		starts += len(initial)
		got, _, ok := abstr.Starts(s, ps, enough)
		if expect(t, fmt.Sprintf("Starts of %v for %v", s, ps), toldAll(got), toldAll(sorted(initial))); !ok {
			t.Errorf("no answer")
		}
		for _, a := range sorted(known) {
			want := stepsAmong(s, ps, a, all)
			steps += len(want)
			got, _, ok := abstr.Steps(s, ps, a, enough)
			if expect(t, fmt.Sprintf("Steps of %v for %v from %s", s, ps, told(a)), toldSteps(got), toldSteps(want)); !ok {
				t.Errorf("no answer")
			}
		}
	}
	if starts < 500 || steps < 500 {
		t.Errorf("only %d initial states and %d steps", starts, steps)
	}
}

// TestP21_2Unbounded: initial states and steps of systems without bounds are found.
func TestP21_2Unbounded(t *testing.T) {
	r := rand.New(rand.NewSource(6))
	found := 0
	for range 60 {
		s := randomSystem(r, false)
		ps := randomPreds(r, len(s.Vars), 3)
		all := fitting(s, 3)
		starts, _, ok := abstr.Starts(s, ps, enough)
		isStart := func(x api.State) bool {
			return slices.ContainsFunc(starts, func(a abstr.Abs) bool { return abstr.Same(a, abstr.Of(ps, x)) })
		}
		for _, x := range all {
			if !ok || kripke.First(s, x) && !isStart(x) {
				t.Fatalf("%v for %v: Starts %s do not contain %v", s, ps, toldAll(starts), x)
			}
		}
		for _, x := range all[:min(len(all), 40)] {
			a := abstr.Of(ps, x)
			steps, _, ok := abstr.Steps(s, ps, a, enough)
			for _, want := range stepsAmong(s, ps, a, all) {
				found++
				if !ok || !slices.ContainsFunc(steps, func(s abstr.Step) bool { return s.Act == want.Act && abstr.Same(s.To, want.To) }) {
					t.Fatalf("%v for %v: Steps %s of %s do not contain %d> %s", s, ps, toldSteps(steps), told(a), want.Act, told(want.To))
				}
			}
		}
	}
	if found < 300 {
		t.Errorf("only %d steps", found)
	}
}

// TestP21_2ManyPreds: more than MaxPreds predicates.
func TestP21_2ManyPreds(t *testing.T) {
	s := system("1;free;x >= 38;0 0>0 x < 45 / x := x + 1")
	var ps []api.Rel
	for i := range 50 {
		ps = append(ps, cond(fmt.Sprint("x >= ", i)).R)
	}
	at := func(x int64) abstr.Abs { return abstr.Of(ps, api.State{Locs: []int{0}, Vals: []api.Int{zint.Of(x)}}) }
	starts, _, ok := abstr.Starts(s, ps, enough)
	if !ok || len(starts) != 12 || !abstr.Same(starts[0], at(38)) || !abstr.Same(starts[11], at(49)) {
		t.Errorf("Starts: %s", toldAll(starts))
	}
	for x := int64(-1); x < 51; x++ {
		next := x
		want := fmt.Sprint("-1> ", told(at(x)))
		if x < 45 {
			next = x + 1
			want = fmt.Sprint("0> ", told(at(next)))
		}
		if x == -1 { // below all predicates
			want = fmt.Sprint("0> ", told(at(-1)), "; 0> ", told(at(0)))
		}
		steps, _, _ := abstr.Steps(s, ps, at(x), enough)
		expect(t, fmt.Sprint("Steps from ", x), toldSteps(steps), want)
	}
}

// TestP21_3Letters: with the predicates of Base, the letters of states and of their
// abstract states are the same.
func TestP21_3Letters(t *testing.T) {
	r := rand.New(rand.NewSource(7))
	held := 0
	for range 3000 {
		var atoms []api.Prop
		for range r.Intn(4) {
			atoms = append(atoms, api.Prop{At: r.Intn(4) == 0, Proc: r.Intn(4) - 1, Loc: r.Intn(4) - 1, F: randomForm(r, 2, r.Intn(3))})
		}
		ps, e := abstr.Base(atoms)
		if e != api.OK {
			continue
		}
		for range 20 {
			x := api.State{Locs: []int{r.Intn(3), r.Intn(3)}[:r.Intn(3)], Vals: []api.Int{small(r, 4), small(r, 4), small(r, 4)}[:1+r.Intn(3)]}
			want := kripke.Letter(atoms, x)
			letter, ok := abstr.Letter(atoms, ps, abstr.Of(ps, x))
			if !ok || !slices.Equal(letter, want) {
				t.Fatalf("%v at %v: %v, %v, want %v", atoms, x, letter, ok, want)
			}
			if slices.Contains(want, true) {
				held++
			}
		}
	}
	if held < 10000 {
		t.Errorf("atoms hold in only %d states", held)
	}
}

// TestP21_4MoreFuel: a result with much less fuel up to more than enough.
func TestP21_4MoreFuel(t *testing.T) {
	s := system("2;free 0..3;x = y;0 0>1 x < y / x := x + 2*y, y := *;0 0>0 x != y / y := x")
	ps := preds("2*x >= 3*y; x = y; x >= 2")
	for name, tell := range map[string]func(fuel int) string{
		"Starts": func(fuel int) string { return toldStarts(s, ps, fuel) },
		"Steps":  func(fuel int) string { return toldStepsOf(s, ps, abstract("0 /---"), fuel) },
	} {
		text, all := consumed(t, tell)
		for fuel := all % 7; fuel < all+100; fuel += 7 {
			want := fmt.Sprint(text, ", ", fuel-all, true)
			if fuel < all {
				want = none
			}
			expect(t, fmt.Sprint(name, " with ", fuel, " of ", all), tell(fuel), want)
		}
	}
}

// TestP21_4Memory: results do not change when arguments are overwritten, and their slices
// do not share memory.
func TestP21_4Memory(t *testing.T) {
	ps := preds("x >= 2; x = 3")
	x := api.State{Locs: []int{1, 0, 7}[:2], Vals: []api.Int{number("3")}}
	a := abstr.Of(ps, x)
	x.Locs[0] = 9
	if _ = append(a.Locs, 5); told(a) != "1 0 /++" || x.Locs[:3][2] != 7 {
		t.Errorf("Of has the memory of its argument: %s", told(a))
	}
	cube := abstr.Cube(ps, a.Bits)
	got := abstr.Gather(ps, cond("y = 1"))
	base, _ := abstr.Base([]api.Prop{{F: cube}})
	ps[0].T.Parts[0].C.Abs[0], ps[1].T.K.Abs[0] = 5, 5
	expect(t, "Gather", textOf(got), "x - 2 >= 0; x - 3 = 0; y - 1 = 0; ")
	cube.Kids[0].R.T.Parts[0].C.Abs[0] = 7
	expect(t, "Base", textOf(base), "x - 2 >= 0; x - 3 = 0; ")
	expect(t, "the predicates", textOf(ps), "5*x - 2 >= 0; x - 5 = 0; ")

	s := system("1 1;free;true;0 0>0 / x := x + 1;1 0>0")
	ps = preds("x >= 2; x >= 3")
	from := abstract("0 0 /+-")
	starts, _, _ := abstr.Starts(s, ps, enough)
	steps, _, _ := abstr.Steps(s, ps, from, enough)
	all := slices.Clone(starts)
	for _, step := range steps {
		all = append(all, step.To)
	}
	text := toldAll(all)
	clear(from.Locs)
	clear(from.Bits)
	expect(t, "after the arguments are overwritten", toldAll(all), text)
	for i, a := range all {
		_, _ = append(a.Locs, 8), append(a.Bits, true)
		a.Locs[0], a.Bits[0] = 8, !a.Bits[0]
		for _, b := range all[i+1:] {
			if b.Locs[0] == 8 {
				t.Errorf("locations share memory")
			}
		}
		a.Locs[0], a.Bits[0] = 0, !a.Bits[0]
	}
	if expect(t, "after overwriting results", toldAll(all), text); len(all) != 5 {
		t.Errorf("%s", text)
	}
	stuck, _, _ := abstr.Steps(system("1;free;true"), ps, abstract("0 /+-"), enough)
	from = abstract("0 /+-")
	if len(stuck) != 1 || !abstr.Same(stuck[0].To, from) {
		t.Errorf("%s", toldSteps(stuck))
	}
}
