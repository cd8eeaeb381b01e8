package kripke_test

import (
	"fmt"
	"math/rand"
	"slices"
	"strings"
	"testing"

	"plumbline/api"
	"plumbline/kripke"
	"plumbline/word"
	"plumbline/zint"
)

// TestP18_1Right: x counts from 0 or 1 up to 3 at location 0; act 1 leads to location 1,
// where the state is stuck; act 2 sets x to any value at location 2.
func TestP18_1Right(t *testing.T) {
	s := system("3;0..3;x <= 1;0 0>0 / x := x + 1;0 0>1;0 0>2;0 2>0 / x := *")
	for _, x := range []struct {
		run  string
		want bool
	}{
		// a run that stays stuck
		{"0 / 1 | 1 / 1 | 1 -1", true}, {"| 1 / 1 | -1", false}, {"0 / 1; 0 / 2 | 1 / 2 | 0 1 -1", true}, {"0 / 1; 0 / 2; 1 / 2 | 1 / 2 | 0 1 -1 -1", true}, {"0 / 1; 0 / 2; 1 / 2 | 1 / 2; 1 / 2 | 0 1 -1 -1 -1", true}, {"0 / 1; 0 / 2 | 1 / 2; 1 / 2 | 0 1 0 -1", false}, {"0 / 1 | 0 / 1 | -1 -1", false}, {"0 / 1; 0 / 2 | 1 / 2; 1 / 1 | 0 1 -1 -1", false},
		// a cycle through three states, with and without a stem
		{"| 0 / 1; 2 / 1 | 2 3", true}, {"0 / 1; 2 / 1 | 0 / 1; 2 / 1 | 2 3 2 3", true}, {"0 / 1 | 0 / 2; 0 / 3; 2 / 3 | 0 0 2 3", true}, {"| 0 / 1; 0 / 2; 2 / 2 | 0 2 3", true},
		// the last step does not lead back to the cycle's first state
		{"0 / 1 | 0 / 2; 0 / 3; 2 / 3 | 0 0 2 -1", false}, {"| 0 / 1 | 0", false}, {"| 0 / 1; 0 / 2 | 0 0", false}, {"| 0 / 1; 1 / 1 | 1 -1", false}, {"0 / 0 | 0 / 1; 0 / 2 | 0 0 0", false}, {"0 / 1; 2 / 1 | 2 / 1 | 2 3 3", false},
		// no cycle, and nothing at all
		{"| |", false}, {"0 / 1 | |", false}, {"0 / 1 | | 1", false}, {"0 / 1; 1 / 1 | | 1 -1", false},
		// fewer and more Acts than states
		{"0 / 1 | 1 / 1 | 1", false}, {"0 / 1 | 1 / 1 |", false}, {"0 / 1 | 1 / 1 | 1 -1 -1", false}, {"| 0 / 1; 2 / 1 | 2 3 2", false}, {"| 0 / 1; 2 / 1 | 2", false}, {"| 0 / 1; 2 / 1 |", false},
		// the first state is not initial, or does not fit
		{"0 / 2 | 1 / 2 | 1 -1", false}, {"1 / 1 | 1 / 1 | -1 -1", false}, {"| 2 / 1; 0 / 1 | 3 2", false}, {"| 0 / 2; 2 / 2 | 2 3", false}, {"0 / -1 | 1 / -1 | 1 -1", false}, {"0 | 1 | 1 -1", false}, {"0 / 1 1 | 1 / 1 1 | 1 -1", false},
		// steps that are none
		{"0 / 1 | 1 / 2 | 1 -1", false}, {"0 / 1 | 1 / 1 | 0 -1", false}, {"0 / 1; 0 / 3 | 1 / 3 | 0 1 -1", false}, {"0 / 1 | 1 / 1 | 1 1", false}, {"0 / 1 | 1 / 1 | 1 4", false}, {"0 / 1 | 1 / 1 | 4 -1", false}, {"0 / 1 | 1 / 1 | -2 -1", false}, {"0 / 1; 0 / 2; 0 / 3; 0 / 4 | 1 / 4 | 0 0 0 1 -1", false}, {"| 0 / 1; 2 / 1 | 3 2", false}, {"0 / 1; 1 / 1; 0 / 1 | 1 / 1 | 1 -1 1 -1", false}, {"0 / 1; 2 / 1 | 0 / 4; 2 / 4 | 2 3 2 3", false},
	} {
		if kripke.Right(s, run(x.run)) != x.want {
			t.Errorf("%s is not %v", x.run, x.want)
		}
	}
	if kripke.Right(system(";;false"), run("| / | -1")) || !kripke.Right(system(";;true"), run("| / | -1")) || !kripke.Right(system(";;true"), run("/ | / | -1 -1")) {
		t.Error("a system without processes and variables")
	}
}

// rightRun is what the document says, word by word.
func rightRun(s api.Sys, r api.Run) bool {
	all := slices.Concat(r.Stem, r.Cycle)
	if len(r.Cycle) == 0 || len(r.Acts) != len(all) || !kripke.First(s, all[0]) {
		return false
	}
	for i := range all {
		next := len(r.Stem)
		if i+1 < len(all) {
			next = i + 1
		}
		if !kripke.Leads(s, all[i], r.Acts[i], all[next]) {
			return false
		}
	}
	return true
}

// walked is a run by random steps, which often returns to a state, and then is valid.
func walked(r *rand.Rand, s api.Sys) api.Run {
	x := api.State{Locs: make([]int, len(s.Procs))}
	for range s.Vars {
		x.Vals = append(x.Vals, zint.Of(int64(r.Intn(4)-2)))
	}
	var all []api.State
	var acts []int
	for range 1 + r.Intn(6) {
		act := r.Intn(len(s.Acts)+1) - 1
		y, ok := kripke.Go(s, x, act, []api.Int{zint.Of(int64(r.Intn(3) - 1)), zint.Of(int64(r.Intn(3) - 1))})
		if !ok {
			continue
		}
		all, acts = append(all, x), append(acts, act)
		x = y
	}
	for i, y := range slices.Backward(all) {
		if kripke.Same(x, y) {
			return api.Run{Stem: all[:i], Cycle: all[i:], Acts: acts}
		}
	}
	at := r.Intn(len(all) + 1)
	return api.Run{Stem: all[:at], Cycle: all[at:], Acts: acts}
}

func TestP18_1RightByWords(t *testing.T) {
	r := rand.New(rand.NewSource(184))
	counts := map[bool]int{}
	for range 20000 {
		s := randomSystem(r)
		s.Init = api.Form{}
		x := walked(r, s)
		want := rightRun(s, x)
		if kripke.Right(s, x) != want {
			t.Fatalf("%+v is not %v, in %+v", x, want, s)
		}
		counts[want]++
		for i := range x.Acts { // another act
			y := api.Run{Stem: x.Stem, Cycle: x.Cycle, Acts: slices.Clone(x.Acts)}
			y.Acts[i] = r.Intn(len(s.Acts)+2) - 1
			if kripke.Right(s, y) != rightRun(s, y) {
				t.Fatalf("%+v is not %v, in %+v", y, rightRun(s, y), s)
			}
		}
		if want {
			longer := api.Run{Stem: slices.Concat(x.Stem, x.Cycle), Cycle: x.Cycle, Acts: slices.Concat(x.Acts, x.Acts[len(x.Stem):])}
			if !kripke.Right(s, longer) {
				t.Fatalf("%+v is not valid with its cycle again, in %+v", x, s)
			}
		}
	}
	if counts[true] < 3000 || counts[false] < 3000 {
		t.Errorf("%v", counts)
	}
}

// prop reads an atom: "process@location", or a condition.
func prop(text string) api.Prop {
	if proc, loc, at := strings.Cut(text, "@"); at {
		return api.Prop{At: true, Proc: integer(proc), Loc: integer(loc), F: api.Form{Kind: api.Not}}
	}
	return api.Prop{F: cond(text), Proc: 0, Loc: 0}
}

func props(text string) []api.Prop {
	var all []api.Prop
	for _, part := range strings.Split(text, ";") {
		if part = strings.TrimSpace(part); part != "" {
			all = append(all, prop(part))
		}
	}
	return all
}

// letter tells a letter by 0 and 1.
func letter(all []bool) string {
	text := ""
	for _, b := range all {
		text += map[bool]string{false: "0", true: "1"}[b]
	}
	return text
}

func TestP18_1Letter(t *testing.T) {
	for _, x := range []struct{ props, state, want string }{
		{"", "0 / 1", ""}, {"true", "/", "1"}, {"false", "0 1 / 2", "0"}, {"true; false; true", "0 1 / 2", "101"},
		{"0@0; 0@1; 1@0; 1@1", "0 1 /", "1001"}, {"0@1; 1@1", "1 1 / 5", "11"}, {"0@5; 0@-1; 1@1", "5 1 /", "101"},
		// processes and locations that do not exist
		{"2@0; -1@0; 2@-1; 9223372036854775807@0; -9223372036854775808@0; 0@0", "0 0 /", "000001"}, {"0@0", "/ 0", "0"}, {"0@2; 0@-1; 0@9223372036854775807", "1 /", "000"}, {"0@-1; 0@7", "-1 /", "10"}, {"0@-1; 0@7", "7 /", "01"},
		// conditions, also of values beyond the end
		{"x > 0; x = 0; x < 0; y = 0; z >= 1; x + y = 7", "/ 7", "100101"}, {"x > 0; x = 0; x < 0; y = 0; z >= 1; x + y = 7", "3 / 0 7 1", "010011"}, {"x = 0 & y = 0 | x = 5; !(x = 5)", "/", "11"}, {"x = 0 & y = 0 | x = 5; !(x = 5)", "/ 5 5", "10"}, {"x > 123456789012345678901234567890; x = 123456789012345678901234567890", "/ 123456789012345678901234567890", "01"},
		{"x = 1; 0@1; x = 2; 0@0", "1 / 1", "1100"}, {"x = 1; 0@1; x = 2; 0@0", "0 / 2", "0011"},
	} {
		expect(t, x.props+" at "+x.state, letter(kripke.Letter(props(x.props), state(x.state))), x.want)
	}
}

func told2(w word.Word) string {
	text := ""
	for _, l := range w.Stem {
		text += letter(l) + " "
	}
	text += "|"
	for _, l := range w.Cycle {
		text += " " + letter(l)
	}
	return text
}

func TestP18_1Spell(t *testing.T) {
	const atoms = "x = 1; 0@1; x = 2"
	for _, x := range []struct{ props, run, want string }{
		{atoms, "0 / 1; 1 / 1 | 1 / 2; 0 / 0 | 0 0 0 0", "100 110 | 011 000"}, {atoms, "| 1 / 2 | -1", "| 011"}, {atoms, "| 1 / 2; 0 / 2; 1 / 1 |", "| 011 001 110"}, {atoms, "0 / 1 | |", "100 |"}, {atoms, "| |", "|"}, {"", "0 / 1 | 0 / 2; 0 / 3 | 0 0 0", " |  "}, {"true", "/; / | / | 5", "1 1 | 1"},
	} {
		expect(t, x.props+" in "+x.run, told2(kripke.Spell(props(x.props), run(x.run))), x.want)
	}
}

// TestP18_1LettersByWords: random atoms and states, also ones that fit nothing.
func TestP18_1LettersByWords(t *testing.T) {
	r := rand.New(rand.NewSource(185))
	for range 5000 {
		var ps []api.Prop
		for range r.Intn(5) {
			ps = append(ps, api.Prop{At: r.Intn(2) == 0, Proc: r.Intn(5) - 1, Loc: r.Intn(4) - 1, F: randomForm(r, r.Intn(3))})
		}
		var runs api.Run
		var want [2]string
		for range r.Intn(6) {
			var p point
			for range r.Intn(4) {
				p.locs = append(p.locs, r.Intn(4)-1)
				p.vals = append(p.vals, r.Intn(7)-3)
			}
			p.vals = p.vals[:len(p.vals)*r.Intn(3)/2]
			text := ""
			for _, a := range ps {
				is := truth(a.F, p.vals)
				if a.At {
					is = a.Proc >= 0 && a.Proc < len(p.locs) && p.locs[a.Proc] == a.Loc
				}
				text += map[bool]string{false: "0", true: "1"}[is]
			}
			x := stateOf(r, p)
			expect(t, fmt.Sprint(p), letter(kripke.Letter(ps, x)), text)
			if r.Intn(2) == 0 {
				runs.Stem, want[0] = append(runs.Stem, x), want[0]+text+" "
			} else {
				runs.Cycle, want[1] = append(runs.Cycle, x), want[1]+" "+text
			}
		}
		expect(t, "a run", told2(kripke.Spell(ps, runs)), want[0]+"|"+want[1])
	}
}

// TestP18_3Memory: arguments stay as they are, also beyond the length of lists, and
// results share no memory with them, and no lists of a result with each other.
func TestP18_3Memory(t *testing.T) {
	s := system("2 2;free free -9..9;true;0 0>1 / x := y, z := *;1 1>0")
	vals := []api.Int{{Abs: api.Nat{1, 0, 9}[:2]}, {Neg: true, Abs: api.Nat{2, 8}[:1]}, {Abs: api.Nat{3, 7}[:1]}, {Abs: api.Nat{77}}}
	locs := []int{0, 1, 5}
	picks := []api.Int{{Abs: api.Nat{4, 0, 6}[:2]}, {Abs: api.Nat{66}}}
	ps := props("x = 1; 0@1; y < 0")
	x := api.State{Locs: locs[:2], Vals: vals[:3]}
	stuck := api.State{Locs: []int{1, 0}, Vals: vals[:3]}
	text := func() string {
		return fmt.Sprintf("%+v %+v %v %+v %v", s, vals, locs, picks, []api.Nat{vals[0].Abs[:3], vals[1].Abs[:2], vals[2].Abs[:2], picks[0].Abs[:3]})
	}
	before := text()
	moved, ok := kripke.Go(s, x, 0, picks[:1])
	back, ok2 := kripke.Go(s, x, 1, nil)
	stays, ok3 := kripke.Go(s, stuck, -1, nil)
	if !ok || !ok2 || !ok3 {
		t.Fatal("no steps")
	}
	r := api.Run{Stem: []api.State{x}, Cycle: []api.State{moved, back}, Acts: []int{0, 1, -1}}
	kripke.Right(s, r)
	spelled := kripke.Spell(ps, r)
	one := kripke.Letter(ps, x)
	kripke.Leads(s, x, 0, moved)
	expect(t, "arguments", text(), before)

	results := func() string {
		return told(moved) + ", " + told(back) + ", " + told(stays) + ", " + told2(spelled) + ", " + letter(one)
	}
	want := "1 1 / -2 -2 4, 0 0 / 1 -2 3, 1 0 / 1 -2 3, 101 | 011 101, 101"
	expect(t, "results", results(), want)
	for _, n := range append(slices.Clone(vals), picks...) {
		for i := range n.Abs {
			n.Abs[i] = 99
		}
	}
	locs[0], locs[1], vals[0], stuck.Locs[0] = 7, 7, api.Int{}, 7
	expect(t, "results", results(), want)
	for _, y := range []api.State{moved, back, stays} {
		for v := range y.Vals {
			before := told(api.State{Locs: y.Locs, Vals: slices.Delete(slices.Clone(y.Vals), v, v+1)})
			for i := range y.Vals[v].Abs[:cap(y.Vals[v].Abs)] {
				y.Vals[v].Abs[:cap(y.Vals[v].Abs)][i] = 98
			}
			expect(t, "other values", told(api.State{Locs: y.Locs, Vals: slices.Delete(slices.Clone(y.Vals), v, v+1)}), before)
		}
	}
	for i, l := range spelled.Cycle {
		_ = append(l, true, true, true, true)
		for k := range l[:cap(l)] {
			l[:cap(l)][k] = true
		}
		if other := spelled.Cycle[1-i]; i == 0 && letter(other) != "101" {
			t.Errorf("letters share memory: %v", other)
		}
	}
}

// TestP18_1Examples: the document's.
func TestP18_1Examples(t *testing.T) {
	s := system("2;0..3;x = 0;0 0>1 / x := x + 1")
	if x := state("0 / 3"); kripke.Can(s, x, 0) || !kripke.Stuck(s, x) {
		t.Error("the act leads somewhere")
	}
	s = system("2;0..3;x = 0;0 0>1 / x := x + 1;0 0>0")
	if x := state("0 / 3"); kripke.Can(s, x, 0) || kripke.Stuck(s, x) || !kripke.Can(s, x, 1) {
		t.Error("there is another act")
	}
}

// TestP18_1Much: large systems and runs.
func TestP18_1Much(t *testing.T) {
	const n = 1 << 16
	s := api.Sys{Procs: make([]api.Proc, n), Vars: make([]string, n)}
	x := api.State{Locs: make([]int, n), Vals: make([]api.Int, n)}
	a := api.Act{Proc: n - 1, To: 1}
	for i := range n {
		s.Procs[i].Locs = make([]string, 2)
		a.Moves = append(a.Moves, api.Move{V: n - 1 - i, Any: true}, api.Move{V: i, T: api.Term{K: zint.Of(1)}})
	}
	s.Acts = []api.Act{a}
	picks := make([]api.Int, n)
	picks[3] = zint.Of(7)
	// the first Move of a variable is the first one of each pair for the upper half
	y, ok := kripke.Go(s, x, 0, picks)
	if !ok || y.Locs[n-1] != 1 || zint.Text(y.Vals[n/2+3]) != "7" || zint.Text(y.Vals[n/2-1]) != "1" || !kripke.Leads(s, x, 0, y) || !kripke.Stuck(s, y) {
		t.Error("many Moves")
	}
	s.Acts = make([]api.Act, n)
	for i := range s.Acts {
		s.Acts[i] = api.Act{Proc: i, From: 1}
	}
	if !kripke.Stuck(s, x) || kripke.Stuck(s, y) || !kripke.Can(s, y, n-1) {
		t.Error("many acts")
	}
	count := system("1;free;x = 0;0 0>0 / x := x + 1;0 0>0 / x := 0")
	var long api.Run
	for i := range n {
		long.Cycle = append(long.Cycle, api.State{Locs: []int{0}, Vals: []api.Int{zint.Of(int64(i))}})
	}
	long.Acts = append(make([]int, n-1), 1)
	if !kripke.Right(count, long) {
		t.Error("a long run")
	}
	long.Acts[n/2] = 1
	if kripke.Right(count, long) {
		t.Error("a long run with a wrong step")
	}
}
