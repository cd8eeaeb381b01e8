package wp_test

import (
	"fmt"
	"math/rand"
	"slices"
	"testing"

	"plumbline/api"
	"plumbline/kripke"
	"plumbline/logic"
	"plumbline/wp"
)

// states are those with values from -far to far, also with locations that do not exist.
func states(s api.Sys, far int) []api.State {
	var all []api.State
	for _, locs := range places(s) {
		for _, vals := range lists(len(s.Vars), far) {
			all = append(all, api.State{Locs: locs, Vals: vals})
		}
	}
	return all
}

// TestP20_2Steps: the steps of small systems between all states with small values that
// fit, as layer 18 tells them.
func TestP20_2Steps(t *testing.T) {
	r := rand.New(rand.NewSource(23))
	steps, stuck := 0, 0
	for range 800 {
		s := randomSystem(r, 0)
		fitting := slices.DeleteFunc(states(s, 3), func(x api.State) bool { return !kripke.Fits(s, x) })
		r.Shuffle(len(fitting), func(i, j int) { fitting[i], fitting[j] = fitting[j], fitting[i] })
		for _, x := range fitting[:min(len(fitting), 12)] {
			if is := kripke.Stuck(s, x); logic.Holds(wp.Stuck(s, x.Locs, 0), x.Vals) != is {
				t.Fatalf("%v: Stuck of %v is not %v", s, x, is)
			} else if is {
				stuck++
			}
			for act := -2; act <= len(s.Acts); act++ {
				locs, ok := wp.Places(s, x.Locs, act)
				step := wp.Step(s, x.Locs, act, 0)
				if is := kripke.Can(s, x, act); is != (ok && act != -1 && logic.Holds(wp.Can(s, act, 0), x.Vals)) {
					t.Fatalf("%v: Can of %d at %v is not %v", s, act, x, is)
				}
				for _, y := range fitting {
					got := ok && slices.Equal(locs, y.Locs) && logic.Holds(step, slices.Concat(x.Vals, y.Vals))
					if is := kripke.Leads(s, x, act, y); got != is {
						t.Fatalf("%v: %d from %v to %v is not %v", s, act, x, y, is)
					} else if is {
						steps++
					}
				}
			}
		}
	}
	if steps < 2000 || stuck < 500 {
		t.Errorf("only %d steps and %d states that are stuck", steps, stuck)
	}
}

// TestP20_2Runs: steps one after the other are Steps at one copy after the other.
func TestP20_2Runs(t *testing.T) {
	s := system("2;0..9 free;x = 0;0 0>1 x < 4 / x := x + 1, y := *;0 1>0 / y := x + y")
	x := api.State{Locs: []int{0}, Vals: []api.Int{number("0"), number("5")}}
	all := slices.Clone(x.Vals)
	runs := wp.Start(s, 0)
	for k := range 9 {
		act := k % 2
		if k == 8 {
			act = -1
		}
		runs = logic.All(runs, wp.Step(s, x.Locs, act, k))
		y, ok := kripke.Go(s, x, act, []api.Int{number("7")})
		if !ok {
			t.Fatalf("no step %d", k)
		}
		x, all = y, append(all, y.Vals...)
		if !logic.Holds(runs, all) {
			t.Fatalf("%d steps do not hold", k+1)
		}
	}
	for i := range all {
		wrong := slices.Clone(all)
		wrong[i] = number("8")
		if logic.Holds(runs, wrong) != (fmt.Sprint(wrong) == fmt.Sprint(all)) && i != 1 { // y starts with any value
			t.Errorf("the steps hold with another value %d", i)
		}
	}
}

// TestP20_2Starts: the initial states of small systems.
func TestP20_2Starts(t *testing.T) {
	r := rand.New(rand.NewSource(24))
	found := 0
	for range 2000 {
		s := randomSystem(r, r.Intn(2))
		zeros := make([]int, len(s.Procs))
		if slices.ContainsFunc(s.Procs, func(p api.Proc) bool { return len(p.Locs) == 0 }) {
			continue
		}
		for _, vals := range lists(len(s.Vars), 3) {
			is := kripke.First(s, api.State{Locs: zeros, Vals: vals})
			if logic.Holds(wp.Start(s, 0), vals) != is {
				t.Fatalf("%v: Start at %v is not %v", s, vals, is)
			} else if is {
				found++
			}
		}
	}
	if found < 1000 {
		t.Errorf("only %d initial states", found)
	}
}

// TestP20_4Memory: results do not change when arguments are overwritten, and cannot be
// extended into the memory of arguments.
func TestP20_4Memory(t *testing.T) {
	const text = "2;-5..3 free;x < y;0 0>1 x < 3 / x := x + 5, y := *"
	for name, f := range map[string]func(s api.Sys, locs []int, g api.Form) api.Form{
		"Range":  func(s api.Sys, _ []int, _ api.Form) api.Form { return wp.Range(s, 1) },
		"Start":  func(s api.Sys, _ []int, _ api.Form) api.Form { return wp.Start(s, 0) },
		"Can":    func(s api.Sys, _ []int, _ api.Form) api.Form { return wp.Can(s, 0, 0) },
		"Stuck":  func(s api.Sys, locs []int, _ api.Form) api.Form { return wp.Stuck(s, locs, 0) },
		"Step":   func(s api.Sys, locs []int, _ api.Form) api.Form { return wp.Step(s, locs, 0, 0) },
		"Pre":    func(s api.Sys, _ []int, g api.Form) api.Form { return wp.Pre(s, 0, g) },
		"Pre -1": func(s api.Sys, _ []int, g api.Form) api.Form { return wp.Pre(s, -1, g) },
	} {
		s, locs, g := system(text), []int{0}, cond("x < 7 | x = 2", names)
		got := f(s, locs, g)
		before := logic.Text(got, names)
		ruin(s, locs, g)
		expect(t, name, logic.Text(got, names), before)
	}
	for _, act := range []int{-1, 0} {
		locs := []int{0, 9}
		got, ok := wp.Places(system(text), locs[:1], act)
		locs[0] = 7
		if !ok || got[0] != act+1 {
			t.Errorf("Places of %d: %v", act, got)
		}
		if _ = append(got, 3); locs[1] != 9 {
			t.Errorf("Places returns the memory of its argument")
		}
	}
}

// ruin overwrites everything that arguments refer to.
func ruin(s api.Sys, locs []int, g api.Form) {
	ruinForm(g)
	ruinForm(s.Init)
	for _, b := range s.Bounds {
		ruinNumber(b.Lo)
		ruinNumber(b.Hi)
	}
	for i := range s.Acts {
		ruinForm(s.Acts[i].Guard)
		for _, m := range s.Acts[i].Moves {
			ruinTerm(m.T)
		}
		clear(s.Acts[i].Moves)
	}
	clear(locs)
	clear(s.Acts)
	clear(s.Bounds)
}

func ruinForm(f api.Form) {
	ruinTerm(f.R.T)
	for _, kid := range f.Kids {
		ruinForm(kid)
	}
	clear(f.Kids)
}

func ruinTerm(t api.Term) {
	ruinNumber(t.K)
	for _, p := range t.Parts {
		ruinNumber(p.C)
	}
	clear(t.Parts)
}

func ruinNumber(n api.Int) {
	for i := range n.Abs {
		n.Abs[i] = 77
	}
}
