package kripke_test

import (
	"math"
	"math/rand"
	"slices"
	"testing"

	"plumbline/api"
	"plumbline/kripke"
	"plumbline/zint"
)

// none stands for no state.
const none = "none"

// expectGo expects where an act leads, and what Can and Leads say of it.
func expectGo(t *testing.T, s api.Sys, x api.State, act int, picks []api.Int, can bool, want string) {
	t.Helper()
	got := none
	if y, ok := kripke.Go(s, x, act, picks); ok {
		got = told(y)
		if !kripke.Leads(s, x, act, y) {
			t.Errorf("act %d does not lead from %s to %s", act, told(x), got)
		}
	} else if len(y.Locs)+len(y.Vals) > 0 {
		t.Errorf("act %d from %s: a state beside false", act, told(x))
	}
	expect(t, "from "+told(x), got, want)
	if kripke.Can(s, x, act) != can {
		t.Errorf("act %d from %s: Can is not %v", act, told(x), can)
	}
}

// TestP18_1Steps: systems with one act, a state, and where the act leads from it without
// picks; whether it leads anywhere at all is told by "-" (not) or "+" in front.
func TestP18_1Steps(t *testing.T) {
	for _, x := range []struct{ system, state, want string }{
		{"2;0..3;true;0 0>1 / x := x + 1", "0 / 2", "+1 / 3"}, {"2;0..3;true;0 0>1 / x := x + 1", "0 / 3", "-"}, {"2;0..3;true;0 0>1 / x := x + 1", "1 / 2", "-"}, {"2;0..3;true;0 0>1 / x := x - 1", "0 / 0", "-"}, {"2;0..3;true;0 0>1 / x := x - 1", "0 / 1", "+1 / 0"}, {"2;free;true;0 0>1 / x := x + 1", "0 / 3", "+1 / 4"}, {"2;out;true;0 0>1 / x := x - 9", "0 / 3", "+1 / -6"}, {"2;0..3;true;0 0>1 / x := 2*y + 2", "0 / 0", "+1 / 2"},
		// states that do not fit
		{"2;0..3;true;0 0>1", "0 / 3", "+1 / 3"}, {"2;0..3;true;0 0>1", "0 / 4", "-"}, {"2;0..3;true;0 0>1 / x := 1", "0 / 4", "-"}, {"2;0..3;true;0 0>1 / x := *", "0 / 4", "-"}, {"2;0..3;true;0 0>1", "0 /", "-"}, {"2;0..3;true;0 0>1", "0 / 1 1", "-"}, {"2;0..3;true;0 0>1", "/ 1", "-"}, {"2;0..3;true;0 0>1", "0 0 / 1", "-"}, {"2 2;;true;0 0>1", "0 2 /", "-"}, {"2 2;;true;1 0>1", "-1 0 /", "-"}, {"2;3..2;true;0 0>1 / x := *", "0 / 3", "-"}, {"2;3..2;true;0 0>1 / x := 2", "0 / 2", "-"},
		// processes and locations that do not exist
		{"2 2;;true;1 0>1", "1 0 /", "+1 1 /"}, {"2 2;;true;0 0>1", "0 1 /", "+1 1 /"}, {"2 2;;true;0 0>0", "0 1 /", "+0 1 /"}, {"2;;true;1 0>1", "0 /", "-"}, {"2;;true;-1 0>1", "0 /", "-"}, {";;true;0 0>0", "/", "-"}, {"2;;true;9223372036854775807 0>1", "0 /", "-"}, {"2;;true;-9223372036854775808 0>1", "0 /", "-"}, {"2;;true;0 2>1", "1 /", "-"}, {"2;;true;0 -1>1", "0 /", "-"}, {"2;;true;0 2>1", "2 /", "-"}, {"2;;true;0 -1>1", "-1 /", "-"}, {"2;;true;0 0>2", "0 /", "-"}, {"2;;true;0 0>-1", "0 /", "-"}, {"0;;true;0 0>0", "0 /", "-"}, {"2 0;;true;0 0>1", "0 0 /", "-"}, {"2 3;;true;0 1>2", "1 2 /", "-"}, {"2 3;;true;1 1>2", "1 1 /", "+1 2 /"},
		// guards
		{"2;free;true;0 0>1 x < 3", "0 / 2", "+1 / 2"}, {"2;free;true;0 0>1 x < 3", "0 / 3", "-"}, {"2;free;true;0 0>1 x < x", "0 / 3", "-"}, {"2;free;true;0 0>1 x < 3 / x := x + 5", "0 / 2", "+1 / 7"}, {"2;free;true;0 0>1 x > 3 / x := x + 5", "0 / 2", "-"}, {"2;free;true;0 0>1 y = 0", "0 / 2", "+1 / 2"},
		// several Moves of a variable: the first one counts
		{"1;free;true;0 0>0 / x := 1, x := 2", "0 / 7", "+0 / 1"}, {"1;0..3;true;0 0>0 / x := 1, x := 9", "0 / 3", "+0 / 1"}, {"1;0..3;true;0 0>0 / x := 9, x := 1", "0 / 3", "-"}, {"1;0..3;true;0 0>0 / x := *, x := 9", "0 / 3", "+0 / 0"}, {"1;1..3;true;0 0>0 / x := *, x := 2", "0 / 3", "+" + none}, {"1;1..3;true;0 0>0 / x := 2, x := *", "0 / 3", "+0 / 2"}, {"1;1..3;true;0 0>0 / x := 9, x := *", "0 / 3", "-"}, {"1;free free;true;0 0>0 / y := x, x := 1, y := 5, x := 6", "0 / 7 8", "+0 / 1 7"},
		// Moves that read what other Moves change, in any order
		{"1;free free;true;0 0>0 / x := y, y := x", "0 / 7 8", "+0 / 8 7"}, {"1;free free;true;0 0>0 / y := x, x := y", "0 / 7 8", "+0 / 8 7"}, {"1;free free;true;0 0>0 / x := x + y, y := x + y", "0 / 7 8", "+0 / 15 15"}, {"1;free free;true;0 0>0 / x := *, y := x", "0 / 7 8", "+0 / 0 7"}, {"1;0..9 0..3;true;0 0>0 / x := 1, y := x", "0 / 3 2", "+0 / 1 3"}, {"1;0..9 0..3;true;0 0>0 / x := 1, y := x", "0 / 4 2", "-"}, {"1;0..9 0..3 0..2;true;0 0>0 / z := y, y := x", "0 / 3 2 1", "+0 / 3 3 2"},
		// Moves whose V is no variable, also beside others of the same variable
		{"1;free;true;0 0>0 / 0 := 2", "0 / 7", "+0 / 2"}, {"1;free;true;0 0>0 / 1 := 2", "0 / 7", "-"}, {"1;free;true;0 0>0 / -1 := 2", "0 / 7", "-"}, {"1;free;true;0 0>0 / -1 := *", "0 / 7", "-"}, {"1;free;true;0 0>0 / 1 := *", "0 / 7", "-"}, {"1;free;true;0 0>0 / x := 1, 9223372036854775807 := 2", "0 / 7", "-"}, {"1;free;true;0 0>0 / -9223372036854775808 := 2, x := 1", "0 / 7", "-"}, {"1;;true;0 0>0 / x := 0", "0 /", "-"}, {"1;free;true;0 0>0 / x := 1, x := 2, 1 := 0, x := *", "0 / 7", "-"},
		// large numbers
		{"1;free;true;0 0>0 / x := 2*x + 1", "0 / 123456789012345678901234567890", "+0 / 246913578024691357802469135781"}, {"1;0..246913578024691357802469135780;true;0 0>0 / x := 2*x", "0 / 123456789012345678901234567890", "+0 / 246913578024691357802469135780"}, {"1;0..246913578024691357802469135779;true;0 0>0 / x := 2*x", "0 / 123456789012345678901234567890", "-"}, {"1;-18446744073709551616..18446744073709551616;true;0 0>0 / x := *", "0 / -18446744073709551616", "+0 / 0"},
	} {
		want := x.want[1:]
		if want == "" {
			want = none
		}
		s := system(x.system)
		expectGo(t, s, state(x.state), 0, nil, x.want[0] == '+', want)
		if stuck := x.want == "-" && kripke.Fits(s, state(x.state)); kripke.Stuck(s, state(x.state)) != stuck {
			t.Errorf("%s in %s: Stuck is not %v", x.state, x.system, stuck)
		}
	}
}

// TestP18_1Go: picks, in the order of the variables.
func TestP18_1Go(t *testing.T) {
	const free = "1;free free free;true;0 0>0 / "
	for _, x := range []struct{ system, picks, want string }{
		{free + "x := *", "", "0 / 0 8 9"}, {free + "x := *", "5", "0 / 5 8 9"}, {free + "x := *", "5 6 7", "0 / 5 8 9"}, {free + "x := *, y := *, z := *", "", "0 / 0 0 0"}, {free + "x := *, y := *, z := *", "4", "0 / 4 0 0"}, {free + "x := *, y := *, z := *", "4 5", "0 / 4 5 0"}, {free + "x := *, y := *, z := *", "4 5 6", "0 / 4 5 6"}, {free + "x := *, y := *, z := *", "4 5 6 7", "0 / 4 5 6"},
		{free + "z := *, x := *", "4 5", "0 / 4 8 5"}, {free + "z := *, x := 1, y := *", "4 5", "0 / 1 4 5"}, {free + "z := *, z := *, x := *, z := 3", "4 5", "0 / 4 8 5"}, {free + "x := 1, x := *, y := *", "4 5", "0 / 1 4 9"}, {free + "y := *, z := x, x := y", "4", "0 / 8 4 7"}, {free + "x := 1", "4", "0 / 1 8 9"}, {free + "x := *", "-123456789012345678901234567890", "0 / -123456789012345678901234567890 8 9"},
		{"1;0..8 2..9 free;true;0 0>0 / x := *, y := *", "0 2", "0 / 0 2 9"}, {"1;0..8 2..9 free;true;0 0>0 / x := *, y := *", "8 9", "0 / 8 9 9"}, {"1;0..8 2..9 free;true;0 0>0 / x := *, y := *", "9 9", none}, {"1;0..8 2..9 free;true;0 0>0 / x := *, y := *", "-1 9", none}, {"1;0..8 2..9 free;true;0 0>0 / x := *, y := *", "0 1", none}, {"1;0..8 2..9 free;true;0 0>0 / x := *, y := *", "0 10", none}, {"1;0..8 2..9 free;true;0 0>0 / x := *, y := *", "0", none}, {"1;0..8 2..9 free;true;0 0>0 / x := *, y := *", "", none}, {"1;0..8 2..9 free;true;0 0>0 / y := *", "2 99", "0 / 7 2 9"}, {"1;7..7 8..8 9..9;true;0 0>0 / y := *, z := *", "8 9", "0 / 7 8 9"},
	} {
		expectGo(t, system(x.system), state("0 / 7 8 9"), 0, numbers(x.picks), true, x.want)
	}
	s := system(free + "x := *, y := *")
	picks := []api.Int{{Neg: true, Abs: api.Nat{0, 0}}, {Abs: api.Nat{5, 0}}}
	y, ok := kripke.Go(s, state("0 / 7 8 9"), 0, picks)
	if !ok || y.Vals[0].Neg || len(y.Vals[0].Abs) != 0 || len(y.Vals[1].Abs) != 1 {
		t.Errorf("%v", y)
	}
}

// TestP18_1Acts: acts by their numbers, among several, and the step -1.
func TestP18_1Acts(t *testing.T) {
	s := system("3;0..3;true;0 0>1 / x := x + 1;0 0>2;0 1>1 x < 3 / x := x + 1")
	for _, x := range []struct {
		state string
		act   int
		can   bool
		want  string
	}{
		{"0 / 2", 0, true, "1 / 3"}, {"0 / 2", 1, true, "2 / 2"}, {"0 / 2", 2, false, none}, {"0 / 2", -1, false, none}, {"0 / 2", 3, false, none}, {"0 / 2", -2, false, none}, {"0 / 2", math.MaxInt, false, none}, {"0 / 2", math.MinInt, false, none},
		{"0 / 3", 0, false, none}, {"0 / 3", 1, true, "2 / 3"}, {"0 / 3", -1, false, none}, {"1 / 2", 2, true, "1 / 3"}, {"1 / 2", 0, false, none}, {"1 / 2", -1, false, none},
		// stuck
		{"1 / 3", 2, false, none}, {"1 / 3", 0, false, none}, {"1 / 3", -1, false, "1 / 3"}, {"1 / 3", -2, false, none}, {"2 / 0", -1, false, "2 / 0"}, {"2 / 0", 1, false, none}, {"2 / 0", 3, false, none},
		// what does not fit is not stuck
		{"3 / 0", -1, false, none}, {"-1 / 0", -1, false, none}, {"2 / 4", -1, false, none}, {"2 /", -1, false, none}, {"2 2 / 0", -1, false, none}, {"2 / 0 0", -1, false, none},
	} {
		expectGo(t, s, state(x.state), x.act, numbers("5 6"), x.can, x.want)
		if stuck := x.act == -1 && x.want != none; x.act == -1 && kripke.Stuck(s, state(x.state)) != stuck {
			t.Errorf("%s: Stuck is not %v", x.state, stuck)
		}
	}
	for _, text := range []string{";;true", "1;;false", "2;free;true", "1;0..3;true;0 0>0 x > 3", "1;;true;1 0>0"} {
		s := system(text)
		x := api.State{Locs: make([]int, len(s.Procs)), Vals: make([]api.Int, len(s.Vars))}
		if !kripke.Stuck(s, x) || !kripke.Leads(s, x, -1, x) || kripke.Can(s, x, -1) || kripke.Can(s, x, 0) {
			t.Errorf("%s is not stuck", text)
		}
	}
	// the document's example
	s = system("2;0..3;true;0 0>1 / x := x + 1")
	if x := state("0 / 3"); kripke.Can(s, x, 0) || !kripke.Stuck(s, x) || kripke.Stuck(s, state("0 / 2")) {
		t.Error("x in 0 .. 3 and x equal to 3")
	}
}

// TestP18_1Leads: an act and two states.
func TestP18_1Leads(t *testing.T) {
	const s = "2 2;0..3 free;true;0 0>1 / x := x + 1;1 0>0 / y := *, x := 1;0 0>0"
	for _, x := range []struct {
		from string
		act  int
		to   string
		want bool
	}{
		{"0 0 / 2 5", 0, "1 0 / 3 5", true}, {"0 0 / 2 5", 0, "1 0 / 2 5", false}, {"0 0 / 2 5", 0, "0 0 / 3 5", false}, {"0 0 / 2 5", 0, "1 1 / 3 5", false}, {"0 0 / 2 5", 0, "1 0 / 3 6", false}, {"0 0 / 2 5", 0, "1 0 / 3", false}, {"0 0 / 2 5", 0, "1 0 / 3 5 0", false}, {"0 0 / 2 5", 0, "1 / 3 5", false}, {"0 0 / 2 5", 0, "1 0 0 / 3 5", false}, {"0 0 / 3 5", 0, "1 0 / 4 5", false}, {"0 0 / 4 5", 0, "1 0 / 5 5", false}, {"1 0 / 2 5", 0, "1 0 / 3 5", false}, {"0 0 / 2 5", 0, "2 0 / 3 5", false},
		{"0 0 / 2 5", 1, "0 0 / 1 5", true}, {"0 0 / 2 5", 1, "0 0 / 1 -9", true}, {"0 0 / 2 5", 1, "0 0 / 1 123456789012345678901234567890", true}, {"0 0 / 2 5", 1, "0 0 / 2 5", false}, {"0 0 / 2 5", 1, "0 1 / 1 5", false}, {"0 1 / 2 5", 1, "0 0 / 1 5", false}, {"0 0 / 1 5", 1, "0 0 / 1 5", true}, {"0 0 / 2 5", 1, "0 0 / 1", false}, {"0 0 / 2 5", 1, "0 0 /", false}, {"0 0 / 2 5", 1, "/", false},
		{"0 0 / 2 5", 2, "0 0 / 2 5", true}, {"0 0 / 2 5", 2, "0 0 / 3 5", false}, {"0 0 / 4 5", 2, "0 0 / 4 5", false}, {"0 0 / 2 5", 3, "0 0 / 2 5", false}, {"0 0 / 2 5", -1, "0 0 / 2 5", false},
		{"1 1 / 2 5", -1, "1 1 / 2 5", true}, {"1 1 / 2 5", -1, "1 1 / 2 4", false}, {"1 1 / 2 5", -1, "1 0 / 2 5", false}, {"1 1 / 2 5", -1, "1 1 / 2", false}, {"1 1 / 4 5", -1, "1 1 / 4 5", false}, {"1 1 / 2", -1, "1 1 / 2", false}, {"1 2 / 2 5", -1, "1 2 / 2 5", false}, {"1 1 / 2 5", -2, "1 1 / 2 5", false}, {"1 1 / 2 5", 0, "1 1 / 2 5", false}, {"1 1 / 2 5", 1, "1 1 / 2 5", false},
	} {
		if kripke.Leads(system(s), state(x.from), x.act, state(x.to)) != x.want {
			t.Errorf("act %d from %s to %s is not %v", x.act, x.from, x.to, x.want)
		}
	}
	odd := api.State{Locs: []int{1, 1}, Vals: []api.Int{{Abs: api.Nat{2, 0, 0}}, {Neg: true, Abs: api.Nat{0}}}}
	if !kripke.Leads(system(s), state("1 1 / 2 0"), -1, odd) || !kripke.Leads(system(s), odd, -1, state("1 1 / 2 0")) {
		t.Error("numbers in other forms")
	}
}

// picked is the state to which an act would lead with picks.
func picked(s api.Sys, x point, act int, picks []int) point {
	y := point{slices.Clone(x.locs), slices.Clone(x.vals)}
	if act < 0 || act >= len(s.Acts) || !fits(s, x) {
		return y
	}
	a := s.Acts[act]
	if a.Proc >= 0 && a.Proc < len(y.locs) {
		y.locs[a.Proc] = a.To
	}
	for v := range y.vals {
		if m, is := assigned(a, v); is && m.Any {
			y.vals[v] = 0
			if len(picks) > 0 {
				y.vals[v], picks = picks[0], picks[1:]
			}
		} else if is {
			y.vals[v] = valueOf(m.T, x.vals)
		}
	}
	return y
}

// expectSteps expects all about the steps of an act, or -1, from a state to those of a
// window.
func expectSteps(t *testing.T, r *rand.Rand, s api.Sys, p point, act int, stuck bool, all []point) {
	t.Helper()
	x, can := stateOf(r, p), false
	for _, q := range all {
		want := leads(s, p, act, q) || act == -1 && stuck && p.same(q)
		can = can || want && act != -1
		if kripke.Leads(s, x, act, stateOf(r, q)) != want {
			t.Fatalf("act %d from %v to %v is not %v, in %+v", act, p, q, want, s)
		}
	}
	if kripke.Can(s, x, act) != can {
		t.Fatalf("act %d from %v: Can is not %v, in %+v", act, p, can, s)
	}
	for range 4 {
		var ints []int
		var picks []api.Int
		for range r.Intn(4) {
			ints = append(ints, r.Intn(7)-3)
			picks = append(picks, odd(r, zint.Of(int64(ints[len(ints)-1]))))
		}
		q := picked(s, p, act, ints)
		want := leads(s, p, act, q) || act == -1 && stuck
		y, ok := kripke.Go(s, x, act, picks)
		if ok != want || ok && !pointOf(y).same(q) || !ok && len(y.Locs)+len(y.Vals) > 0 {
			t.Fatalf("act %d from %v with %v: %v, %v, in %+v", act, p, ints, pointOf(y), ok, s)
		}
	}
}

// TestP18_1StepsByWords: every step of small systems.
func TestP18_1StepsByWords(t *testing.T) {
	r := rand.New(rand.NewSource(182))
	counts, steps := map[bool]int{}, 0
	for range 600 {
		s := randomSystem(r)
		all := window(s, 7)
		for range 5 {
			p := someOf(r, s, all)
			stuck := fits(s, p)
			for act := range s.Acts {
				stuck = stuck && !slices.ContainsFunc(all, func(q point) bool { return leads(s, p, act, q) })
			}
			if kripke.Stuck(s, stateOf(r, p)) != stuck {
				t.Fatalf("%v: Stuck is not %v, in %+v", p, stuck, s)
			}
			counts[stuck]++
			for act := -2; act <= len(s.Acts); act++ {
				expectSteps(t, r, s, p, act, stuck, all)
				if kripke.Can(s, stateOf(r, p), act) {
					steps++
				}
			}
		}
	}
	if counts[true] < 500 || counts[false] < 500 || steps < 500 {
		t.Errorf("%v, %d steps", counts, steps)
	}
}

// TestP18_2: where Can is true, Go leads to a state with all picks within bounds; from
// each state that fits, some step leads to a state.
func TestP18_2CanAndGo(t *testing.T) {
	r := rand.New(rand.NewSource(183))
	counts := map[bool]int{}
	for range 3000 {
		s := randomSystem(r)
		all := window(s, 3)
		x := stateOf(r, someOf(r, s, all))
		some := kripke.Leads(s, x, -1, x)
		for act, a := range s.Acts {
			var picks []api.Int
			for v := range s.Vars {
				if m, is := assigned(a, v); is && m.Any {
					lo, hi := -9, 9
					if v < len(s.Bounds) && s.Bounds[v].Is {
						lo, hi = small(s.Bounds[v].Lo), max(small(s.Bounds[v].Lo), small(s.Bounds[v].Hi))
					}
					picks = append(picks, zint.Of(int64(lo+r.Intn(hi-lo+1))))
				}
			}
			y, ok := kripke.Go(s, x, act, picks)
			if ok != kripke.Can(s, x, act) || ok != kripke.Leads(s, x, act, y) {
				t.Fatalf("act %d from %s: %v, in %+v", act, told(x), ok, s)
			}
			some = some || ok
			counts[ok]++
		}
		if some != kripke.Fits(s, x) {
			t.Fatalf("from %s: %v, in %+v", told(x), some, s)
		}
	}
	if counts[true] < 300 || counts[false] < 300 {
		t.Errorf("%v", counts)
	}
}
