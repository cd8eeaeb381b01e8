package abstr_test

import (
	"fmt"
	"math"
	"math/rand"
	"slices"
	"testing"

	"plumbline/abstr"
	"plumbline/api"
	"plumbline/decide"
	"plumbline/logic"
	"plumbline/omega"
	"plumbline/wp"
)

const enough = api.MaxFuel

// none is what is told of an answer for which the fuel was not sufficient.
const none = "none 0"

func toldStarts(s api.Sys, ps []api.Rel, fuel int) string {
	all, left, ok := abstr.Starts(s, ps, fuel)
	if !ok && len(all) == 0 {
		return fmt.Sprint("none ", left)
	}
	return fmt.Sprint(toldAll(all), ", ", left, ok)
}

func toldStepsOf(s api.Sys, ps []api.Rel, a abstr.Abs, fuel int) string {
	all, left, ok := abstr.Steps(s, ps, a, fuel)
	if !ok && len(all) == 0 {
		return fmt.Sprint("none ", left)
	}
	return fmt.Sprint(toldSteps(all), ", ", left, ok)
}

// consumed is what is told of all of an answer beside the fuel that is left, and that the
// fuel decreases by so much.
func consumed(t *testing.T, tell func(fuel int) string) (string, int) {
	t.Helper()
	text := tell(enough)
	for i := range text {
		var left int
		if _, err := fmt.Sscanf(text[i:], ", %d true", &left); err == nil {
			return text[:i], enough - left
		}
	}
	t.Fatalf("no answer: %s", text)
	return "", 0
}

func TestP21_1Starts(t *testing.T) {
	for _, x := range []struct{ system, preds, want string }{
		{"2;free;x = 0", "x >= 2", "0 /-"}, {"2;free;x = 0", "", "0 /"}, {"2;free;x < x", "x >= 2", ""}, {"2;free;true", "x >= 2", "0 /-; 0 /+"}, {"2;free;true", "x >= 2; x >= 1", "0 /--; 0 /-+; 0 /++"}, {"2;free;true", "x >= 1; x >= 2", "0 /--; 0 /+-; 0 /++"}, {"2;free;true", "x = 1", "0 /-; 0 /+"}, {"2;0..1;true", "x >= 1; x = 0; x >= 0", "0 /-++; 0 /+-+"}, {"2;1..0;true", "x >= 1", ""}, {"2;0..3;x > 3", "", ""}, {"2;0..0;true", "x >= 1; x = 0", "0 /-+"}, {"2;free free;x < y", "y > x + 1; x = 0", "0 /--; 0 /-+; 0 /+-; 0 /++"}, {"2;free free;x < y", "y > x; y >= x", "0 /++"}, {"2;free;2*x = 6 | x = 1", "x = 3; x = 1; x = 2", "0 /-+-; 0 /+--"},
		{"2 3 1;;true", "", "0 0 0 /"}, {";;true", "", "/"}, {";free;x < 1", "x >= 0", "/-; /+"}, {"2;;true", "0 = 0; 0 > 1; 0 >= 0", "0 /+-+"}, {"0;;true", "", "0 /"}, {";;false", "", ""},
		// the same predicate twice, and one beside its denial
		{"2;free;true", "x >= 2; x >= 2", "0 /--; 0 /++"}, {"2;free;true", "x >= 2; x < 2; x >= 2", "0 /-+-; 0 /+-+"},
		// predicates about variables that the system does not have
		{"2;0..1;true", "z >= 5; x >= 1", "0 /--; 0 /-+; 0 /+-; 0 /++"},
		// the number of bits is that of the predicates
		{"2;0..4;true", "x >= 1; x >= 2; x >= 3; x >= 4; x >= 5", "0 /-----; 0 /+----; 0 /++---; 0 /+++--; 0 /++++-"},
	} {
		got, _ := consumed(t, func(fuel int) string { return toldStarts(system(x.system), preds(x.preds), fuel) })
		expect(t, "Starts of "+x.system+" for "+x.preds, got, x.want)
	}
}

func TestP21_1Steps(t *testing.T) {
	const counter = "1;free;x = 0;0 0>0 / x := x + 1"
	const several = "3;0..3;true;0 0>1 x < 2 / x := x + 2;0 1>0 / x := *;0 0>2 x = 3;0 0>0 x > 1 / x := 0"
	for _, x := range []struct{ system, preds, from, want string }{
		// the document's example
		{counter, "x >= 2", "0 /-", "0> 0 /-; 0> 0 /+"}, {counter, "x >= 2", "0 /+", "0> 0 /+"},
		{counter, "", "0 /", "0> 0 /"}, {counter, "x = 1; x >= 0", "0 /-+", "0> 0 /-+; 0> 0 /++"}, {counter, "x = 1; x >= 0", "0 /++", "0> 0 /-+"}, {counter, "x = 1; x >= 0", "0 /--", "0> 0 /--; 0> 0 /-+"}, {counter, "x = 1; x >= 0", "0 /+-", ""},
		{several, "x >= 2", "0 /-", "0> 1 /+"}, {several, "x >= 2", "0 /+", "2> 2 /+; 3> 0 /-"}, {several, "x >= 2", "1 /-", "1> 0 /-; 1> 0 /+"}, {several, "x >= 2", "2 /-", "-1> 2 /-"}, {several, "x >= 2; x = 3", "0 /+-", "3> 0 /--"}, {several, "x >= 2; x = 3", "0 /++", "2> 2 /++; 3> 0 /--"}, {several, "x >= 2; x = 3", "2 /-+", ""}, {several, "x >= 7", "1 /+", ""}, {several, "x >= 7", "2 /-", "-1> 2 /-"}, {several, "x >= 2", "0 /", "0> 1 /+; 2> 2 /+; 3> 0 /-"},
		// states that are stuck, and others that have the same abstract state
		{"1;0..3;true;0 0>0 x < 2 / x := x + 1", "x >= 1", "0 /-", "0> 0 /+"}, {"1;0..3;true;0 0>0 x < 2 / x := x + 1", "x >= 1", "0 /+", "0> 0 /+; -1> 0 /+"}, {"1;0..3;true;0 0>0 x < 2 / x := x + 1", "x >= 2", "0 /+", "-1> 0 /+"}, {"1;0..3;true;0 0>0 / x := x + 1", "x >= 3", "0 /+", "-1> 0 /+"}, {"1;0..3;true;0 0>0 / x := x + 1", "x >= 3", "0 /-", "0> 0 /-; 0> 0 /+"}, {"1;0..3;true;0 0>0 / x := x + 1", "", "0 /", "0> 0 /; -1> 0 /"}, {"1;1..0;true;0 0>0 / x := *", "", "0 /", ""}, {"1;free 1..0;true;0 0>0 / x := *", "", "0 /", ""},
		// too few and too many bits
		{several, "x >= 2; x = 3", "0 /+", "2> 2 /++; 3> 0 /--"}, {several, "x >= 2", "0 /-++", "0> 1 /+"}, {several, "x >= 2; x = 3", "2 /", "-1> 2 /"}, {several, "x >= 2", "2 /-++", "-1> 2 /-++"}, {several, "", "2 /+-", "-1> 2 /+-"},
		// locations that no act can start at
		{several, "x >= 2", "3 /+", "-1> 3 /+"}, {several, "x >= 2", "-1 /+", "-1> -1 /+"}, {several, "x >= 2", "/+", "-1> /+"}, {several, "x >= 2", "0 0 /+", "-1> 0 0 /+"}, {"2;;true", "", "0 /", "-1> 0 /"}, {";;true", "", "/", "-1> /"}, {"2;;true", "0 > 1", "0 /+", ""}, {"2;;true;1 0>1;0 0>2;0 0>1 / 0 := 1", "", "0 /", "-1> 0 /"},
		// several processes, and variables that acts read and change
		{"2 2;free free;true;0 0>1 / x := y, y := x;1 0>1 / y := *", "x < y; x > 0", "0 0 /++", "0> 1 0 /-+; 1> 0 1 /-+; 1> 0 1 /++"}, {"2 2;free free;true;0 0>1 / x := y, y := x;1 0>1 / y := *", "x < y; x > 0", "1 0 /--", "1> 1 1 /--; 1> 1 1 /+-"}, {"2 2;;true;0 0>1;1 0>1 false", "", "0 0 /", "0> 1 0 /"}, {"2 2;;true;0 0>1;1 0>1 false", "", "1 0 /", "-1> 1 0 /"},
		// the same predicate twice
		{counter, "x >= 2; x >= 2", "0 /--", "0> 0 /--; 0> 0 /++"}, {counter, "x >= 2; x >= 2", "0 /-+", ""},
	} {
		got, _ := consumed(t, func(fuel int) string {
			return toldStepsOf(system(x.system), preds(x.preds), abstract(x.from), fuel)
		})
		expect(t, "Steps of "+x.system+" for "+x.preds+" from "+x.from, got, x.want)
	}
}

// asking asks questions as the document says it, with the fuel that is left.
type asking struct {
	left  int
	spent bool
}

// known reports whether it is known that a formula has no solution.
func (q *asking) known(f api.Form) bool {
	fuel := min(q.left, 4000)
	answer := decide.Sat(f, 0, fuel)
	q.left -= fuel
	q.left += answer.Left
	if answer.State == omega.Fuel && fuel < 4000 {
		q.spent = true
	}
	return answer.State == omega.Unsat
}

// listsOf are the lists of n bits that remain, each as a text, in the order of Cmp.
func (q *asking) listsOf(n int, form func(list []bool) api.Form) []string {
	var all []string
	if !q.known(form(nil)) && !q.spent {
		all = append(all, "")
	}
	for range n {
		var next []string
		for _, list := range all {
			for _, bit := range []string{"+", "-"} {
				if q.spent {
					return nil
				}
				if !q.known(form(bits(list + bit))) {
					next = append(next, list+bit)
				}
			}
		}
		slices.SortFunc(next, func(a, b string) int { return abstr.Cmp(abstract("/"+a), abstract("/"+b)) })
		all = next
	}
	return all
}

func startsByWords(s api.Sys, ps []api.Rel, fuel int) string {
	q := asking{left: min(max(fuel, 0), 1<<30)}
	lists := q.listsOf(len(ps), func(list []bool) api.Form { return logic.All(wp.Start(s, 0), abstr.Cube(ps, list)) })
	if q.spent {
		return none
	}
	var all []abstr.Abs
	for _, list := range lists {
		all = append(all, abstr.Abs{Locs: make([]int, len(s.Procs)), Bits: bits(list)})
	}
	return fmt.Sprint(toldAll(all), ", ", q.left, true)
}

func stepsByWords(s api.Sys, ps []api.Rel, a abstr.Abs, fuel int) string {
	q := asking{left: min(max(fuel, 0), 1<<30)}
	var all []abstr.Step
	cube, inRange := abstr.Cube(ps, a.Bits), wp.Range(s, 0)
	for act := range s.Acts {
		locs, can := wp.Places(s, a.Locs, act)
		if !can {
			continue
		}
		lists := q.listsOf(len(ps), func(list []bool) api.Form {
			after := logic.Move(abstr.Cube(ps, list), len(s.Vars))
			return logic.All(cube, inRange, wp.Step(s, a.Locs, act, 0), after)
		})
		if q.spent {
			return none
		}
		for _, list := range lists {
			all = append(all, abstr.Step{Act: act, To: abstr.Abs{Locs: locs, Bits: bits(list)}})
		}
	}
	if !q.known(logic.All(cube, inRange, wp.Stuck(s, a.Locs, 0))) {
		all = append(all, abstr.Step{Act: -1, To: a})
	}
	if q.spent {
		return none
	}
	return fmt.Sprint(toldSteps(all), ", ", q.left, true)
}

// expectAtAllFuels compares two ways of telling an answer with different fuel, and what is
// told with little and with much of it. If it is not told with some fuel, it is not with
// less.
func expectAtAllFuels(t *testing.T, what string, tell, want func(fuel int) string) {
	t.Helper()
	expect(t, what, tell(enough), want(enough))
	text, all := consumed(t, tell)
	expect(t, what+" with MaxInt", tell(math.MaxInt), tell(enough))
	expect(t, what+" with one more than MaxFuel", tell(enough+1), tell(enough))
	expect(t, what+" without fuel", tell(0), none)
	expect(t, what+" with -1", tell(-1), none)
	expect(t, what+" with MinInt", tell(math.MinInt), none)
	expect(t, what+" with one unit less", tell(all-1), none)
	sufficient := false
	for _, fuel := range []int{1, 2, 3, all / 3, all / 2, all - 4000, all - 2, all, all + 1, all + 2, all + 20, all + 3999, all + 4000, 2*all + 4001} {
		got := tell(fuel)
		expect(t, fmt.Sprint(what, " with ", fuel, " of ", all), got, want(fuel))
		if got != none {
			expect(t, fmt.Sprint(what, " with ", fuel, " of ", all), got, fmt.Sprint(text, ", ", fuel-all, true))
		}
		sufficient = got != none
	}
	if !sufficient {
		t.Errorf("%s: twice as much is not sufficient", what)
	}
}

// TestP21_1ByWords: answers of systems with bounds and without, with the fuel consumed.
func TestP21_1ByWords(t *testing.T) {
	r := rand.New(rand.NewSource(4))
	for i := range 300 {
		s := randomSystem(r, i%2 == 0)
		ps := randomPreds(r, len(s.Vars)+i%3/2, 3)
		expectAtAllFuels(t, fmt.Sprintf("Starts of %v for %v", s, ps), func(fuel int) string { return toldStarts(s, ps, fuel) }, func(fuel int) string { return startsByWords(s, ps, fuel) })
		a := abstr.Abs{Bits: make([]bool, max(len(ps)+one(r, 0, 0, 0, 1, -1), 0))}
		for _, p := range s.Procs {
			a.Locs = append(a.Locs, r.Intn(len(p.Locs)))
		}
		for i := range a.Bits {
			a.Bits[i] = r.Intn(2) == 0
		}
		expectAtAllFuels(t, fmt.Sprintf("Steps of %v for %v from %s", s, ps, told(a)), func(fuel int) string { return toldStepsOf(s, ps, a, fuel) }, func(fuel int) string { return stepsByWords(s, ps, a, fuel) })
	}
}

// branches is a disjunction of conjunctions that have no common solution, or are found to
// have one, only by a search.
func branches(r *rand.Rand) api.Form {
	var all []api.Form
	for range 2 + r.Intn(2) {
		var some []api.Form
		for range 2 + r.Intn(2) {
			left, right := api.Term{K: small(r, 6)}, api.Term{K: small(r, 6)}
			left.Parts = []api.Part{{V: 0, C: small(r, 3)}, {V: 1, C: small(r, 3)}}
			some = append(some, logic.Compare(one(r, api.Ne, api.Le, api.Ge, api.Ge), left, right))
		}
		all = append(all, logic.All(some...))
	}
	return logic.Any(all...)
}

// TestP21_1Order: the parts of a question are in the order in which the document names
// them. This makes a difference for the fuel, if several parts have several lists.
func TestP21_1Order(t *testing.T) {
	r := rand.New(rand.NewSource(8))
	starts, steps := 0, 0
	for range 40 {
		s := system("1;free free;true;0 0>0 / x := x + y, y := *")
		s.Init, s.Acts[0].Guard = branches(r), branches(r)
		ps := preds("3*x + 2*y = 1; 2*x - 5*y = 3")
		got := toldStarts(s, ps, enough)
		expect(t, fmt.Sprintf("Starts of %v", s), got, startsByWords(s, ps, enough))
		q := asking{left: enough}
		q.listsOf(len(ps), func(list []bool) api.Form { return logic.All(abstr.Cube(ps, list), wp.Start(s, 0)) })
		_, all := consumed(t, func(fuel int) string { return toldStarts(s, ps, fuel) })
		starts += min(1, max(all-(enough-q.left), enough-q.left-all))

		a := abstract("0 /--")
		got = toldStepsOf(s, ps, a, enough)
		expect(t, fmt.Sprintf("Steps of %v", s), got, stepsByWords(s, ps, a, enough))
		q = asking{left: enough}
		step, stuck := wp.Step(s, a.Locs, 0, 0), wp.Stuck(s, a.Locs, 0)
		q.listsOf(len(ps), func(list []bool) api.Form {
			return logic.All(step, abstr.Cube(ps, a.Bits), logic.Move(abstr.Cube(ps, list), 2))
		})
		q.known(logic.All(abstr.Cube(ps, a.Bits), stuck))
		_, all = consumed(t, func(fuel int) string { return toldStepsOf(s, ps, a, fuel) })
		steps += min(1, max(all-(enough-q.left), enough-q.left-all))
	}
	if starts < 5 || steps < 5 {
		t.Errorf("another order makes a difference only %d and %d times", starts, steps)
	}
}

// TestP21_1Unknown: questions that consume all units that one may have, without an answer,
// since they are about too large a variable, or have too many lists.
func TestP21_1Unknown(t *testing.T) {
	for _, x := range []struct {
		system, preds, want string
		unknown             int
	}{
		{"2;free;x = 0", "far >= 0", "0 /-; 0 /+", 2}, {"2;free;x = 0", "far >= 0; x >= 2", "0 /--; 0 /-+; 0 /+-; 0 /++", 6}, {"2;free;x = 0", "x >= 2; far >= 0", "0 /--; 0 /-+", 2}, {"2;free;x = 0", "x >= 2; far >= 0; x >= 3", "0 /---; 0 /--+; 0 /-+-; 0 /-++", 6}, {"2;free;x = 0 & far = 0", "", "0 /", 1}, {"2;free;x = 0 & far = 0", "x >= 2", "0 /-; 0 /+", 3}, {"2;free;x = 0 & far = 0", "x < x", "0 /-; 0 /+", 3}, {"2;free;x = 1 & x = 2", "far = 0", "", 0},
	} {
		s, ps := system(x.system), preds(x.preds)
		tell := func(fuel int) string { return toldStarts(s, ps, fuel) }
		got, all := consumed(t, tell)
		expect(t, "Starts of "+x.system+" for "+x.preds, got, x.want)
		if all < x.unknown*abstr.Query || all >= (x.unknown+1)*abstr.Query {
			t.Errorf("Starts of %s for %s consumes %d", x.system, x.preds, all)
		}
		expectAtAllFuels(t, "Starts of "+x.system+" for "+x.preds, tell, func(fuel int) string { return startsByWords(s, ps, fuel) })
	}
	for _, x := range []struct {
		system, preds, from, want string
		unknown                   int
	}{
		{"1;free;true;0 0>0 / x := x + 1", "far = 0", "0 /+", "0> 0 /-; 0> 0 /+; -1> 0 /+", 4}, {"1;free;true;0 0>0 / x := x + 1", "far = 0", "0 /", "0> 0 /-; 0> 0 /+", 2}, {"1;free;true;0 0>0 / x := x + 1", "x >= 2; far = 0", "0 /+", "0> 0 /+-; 0> 0 /++", 2}, {"1;free;true;0 0>0 far = 1 / x := 1", "x >= 2", "0 /+", "0> 0 /-; 0> 0 /+; -1> 0 /+", 4}, {"1;free;true;0 0>0 far = 1 / x := 1", "", "0 /", "0> 0 /; -1> 0 /", 2}, {"1;free;far = 7;0 0>0", "x >= 2", "0 /+", "0> 0 /+", 0},
	} {
		s, ps, a := system(x.system), preds(x.preds), abstract(x.from)
		tell := func(fuel int) string { return toldStepsOf(s, ps, a, fuel) }
		got, all := consumed(t, tell)
		what := "Steps of " + x.system + " for " + x.preds + " from " + x.from
		expect(t, what, got, x.want)
		if all < x.unknown*abstr.Query || all >= (x.unknown+1)*abstr.Query {
			t.Errorf("%s consumes %d", what, all)
		}
		expectAtAllFuels(t, what, tell, func(fuel int) string { return stepsByWords(s, ps, a, fuel) })
	}
}

// TestP21_1ManyLists: a Cube that has more lists than a question may have.
func TestP21_1ManyLists(t *testing.T) {
	s := api.Sys{Vars: make([]string, 12), Procs: []api.Proc{{Locs: []string{"a"}}}}
	var ps []api.Rel
	for v := range s.Vars {
		ps = append(ps, api.Rel{T: api.Term{Parts: []api.Part{{V: v, C: number("1")}}}, Eq: true})
	}
	a := abstr.Abs{Locs: []int{0}, Bits: make([]bool, 12)}
	expect(t, "-1 with 4096 lists and 4000 units", toldStepsOf(s, ps, a, 4000), "-1> 0 /------------, 0 true")
	expect(t, "-1 with 4096 lists and 3999 units", toldStepsOf(s, ps, a, 3999), none)
	a.Bits = a.Bits[:11]
	text, all := consumed(t, func(fuel int) string { return toldStepsOf(s, ps, a, fuel) })
	if expect(t, "-1 with 2048 lists", text, "-1> 0 /-----------"); all < 2049 || all > 3000 {
		t.Errorf("-1 with 2048 lists consumes %d", all)
	}
}

// TestP21_1LastQuestion: fuel that is left for a question to be one without an answer, and
// one unit less.
func TestP21_1LastQuestion(t *testing.T) {
	s := system("2;free;x = 0")
	_, first := consumed(t, func(fuel int) string { return toldStarts(s, nil, fuel) })
	expect(t, "the first predicate", toldStarts(s, preds("far = 0"), first+8000), "0 /-; 0 /+, 0 true")
	expect(t, "one unit less", toldStarts(s, preds("far = 0"), first+7999), none)
	expect(t, "one unit less for the first question", toldStarts(s, preds("far = 0"), first+3999), none)
	expect(t, "one question only", toldStarts(s, preds("far = 0"), first+4000), none)
}
