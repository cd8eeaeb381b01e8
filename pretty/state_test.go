package pretty_test

import (
	"fmt"
	"math"
	"strings"
	"testing"

	"plumbline/api"
	"plumbline/model"
	"plumbline/pretty"
	"plumbline/zint"
)

// system has the processes p with a, b and q with c, and the variables x and y.
func system(t *testing.T) api.Sys {
	t.Helper()
	s, ok := model.System(parsed(t, "var x, y; init true; proc p loc a, b; a -> b; b -> a; a -> a; end proc q loc c; c -> c; c -> c / x := 1; end"))
	if !ok {
		t.Fatal("not valid")
	}
	return s
}

func TestP13_1Place(t *testing.T) {
	s := system(t)
	odd := api.Sys{Procs: []api.Proc{{}, {Name: "", Locs: []string{"", "a b"}}, {Name: "p@", Locs: []string{"\xff"}}}}
	for _, c := range []struct {
		s         api.Sys
		proc, loc int
		want      string
	}{
		{s, 0, 0, "p@a"}, {s, 0, 1, "p@b"}, {s, 1, 0, "q@c"}, {s, 0, 2, "p@?"}, {s, 0, -1, "p@?"}, {s, 1, 1, "q@?"}, {s, 1, math.MaxInt, "q@?"}, {s, 1, math.MinInt, "q@?"},
		{s, 2, 0, "?@?"}, {s, -1, 0, "?@?"}, {s, math.MaxInt, 0, "?@?"}, {s, math.MinInt, 1, "?@?"}, {s, -1, -1, "?@?"}, {api.Sys{}, 0, 0, "?@?"}, {api.Sys{Vars: []string{"x"}}, 0, 0, "?@?"},
		{odd, 0, 0, "@?"}, {odd, 1, 0, "@"}, {odd, 1, 1, "@a b"}, {odd, 2, 0, "p@@\xff"}, {odd, 2, 1, "p@@?"},
	} {
		expect(t, fmt.Sprint(c.proc, c.loc), pretty.Place(c.s, c.proc, c.loc), c.want)
	}
}

func TestP13_1Act(t *testing.T) {
	s := system(t)
	for i, want := range map[int]string{
		0: "p.1", 1: "p.2", 2: "p.3", 3: "q.1", 4: "q.2", 5: "stutter", 6: "stutter", -1: "stutter", -2: "stutter", math.MaxInt: "stutter", math.MinInt: "stutter",
	} {
		expect(t, fmt.Sprint(i), pretty.Act(s, i), want)
	}
	// acts in another order, and of processes that are not there
	var mixed api.Sys
	mixed.Procs = s.Procs
	for _, proc := range []int{1, 0, 1, 7, -1, 0, 7, 1, math.MinInt, -1, 2} {
		mixed.Acts = append(mixed.Acts, api.Act{Proc: proc})
	}
	for i, want := range strings.Fields("q.1 p.1 q.2 ?.1 ?.1 p.2 ?.2 q.3 ?.1 ?.2 ?.1 stutter") {
		expect(t, fmt.Sprint(i), pretty.Act(mixed, i), want)
	}
	many := api.Sys{Procs: []api.Proc{{Name: ""}}, Acts: make([]api.Act, 1234)}
	expect(t, "the last", pretty.Act(many, 1233), ".1234")
	expect(t, "no acts", pretty.Act(api.Sys{}, 0), "stutter")
}

func TestP13_1ActOfModels(t *testing.T) {
	for _, text := range texts(200) {
		m := parsed(t, text)
		s, _ := model.System(m)
		i := 0
		for _, p := range m.Procs {
			for n := range p.Cmds {
				expect(t, text, pretty.Act(s, i), fmt.Sprintf("%s.%d", p.Name, n+1))
				i++
			}
		}
		expect(t, text, pretty.Act(s, i), "stutter")
	}
}

func TestP13_1State(t *testing.T) {
	s := system(t)
	huge, _ := zint.Parse("-123456789012345678901234567890")
	vals := func(ns ...int64) []api.Int {
		var all []api.Int
		for _, n := range ns {
			all = append(all, zint.Of(n))
		}
		return all
	}
	for _, c := range []struct {
		s    api.Sys
		x    api.State
		want string
	}{
		{s, api.State{Locs: []int{1, 0}, Vals: vals(2, -3)}, "p@b q@c x=2 y=-3"}, {s, api.State{Locs: []int{0, 0}, Vals: vals(0, 0)}, "p@a q@c x=0 y=0"}, {s, api.State{}, ""},
		{s, api.State{Locs: []int{1}}, "p@b"}, {s, api.State{Vals: vals(7)}, "x=7"}, {s, api.State{Locs: []int{1}, Vals: vals(2)}, "p@b x=2"}, {s, api.State{Locs: []int{1, 0}}, "p@b q@c"},
		{s, api.State{Locs: []int{1, 0, 0, -1}, Vals: vals(1, 2, 3, -4)}, "p@b q@c ?@? ?@? x=1 y=2 ?=3 ?=-4"}, {s, api.State{Locs: []int{-1, 1, math.MaxInt}, Vals: nil}, "p@? q@? ?@?"}, {s, api.State{Locs: []int{2, math.MinInt}}, "p@? q@?"},
		{api.Sys{}, api.State{Locs: []int{0}, Vals: vals(1)}, "?@? ?=1"}, {api.Sys{}, api.State{}, ""}, {api.Sys{Vars: []string{"", "a b"}}, api.State{Vals: vals(1, 2)}, "=1 a b=2"},
		{s, api.State{Vals: []api.Int{huge, {Neg: true}}}, "x=-123456789012345678901234567890 y=0"}, {s, api.State{Vals: []api.Int{{Neg: true, Abs: api.Nat{5, 0, 0}}, {Neg: true, Abs: api.Nat{0, 0}}}}, "x=-5 y=0"},
	} {
		expect(t, told(c.x), pretty.State(c.s, c.x), c.want)
	}
	one, _ := model.System(parsed(t, "var x in 0 .. 3; init x = 0; proc p loc a, b; a -> b : x < 3 / x := x + 1; end"))
	expect(t, "the example", pretty.State(one, api.State{Locs: []int{1}, Vals: vals(2)}), "p@b x=2")
}

// TestP13_4Memory: arguments stay as they are, also beyond the length of their lists.
func TestP13_4Memory(t *testing.T) {
	s := system(t)
	s.Vars = append(s.Vars, "spare")[:2]
	x := api.State{Locs: []int{1, 0, 5}[:2], Vals: []api.Int{zint.Of(1), zint.Of(2), zint.Of(3)}[:2]}
	m := parsed(t, "var x, y; init x = 1; proc p loc a; a -> a : x = 1 / y := 2; end")
	m.Decls[0].Names = []string{"x", "y", "spare"}[:2]
	m.Procs[0].Locs = []string{"a", "spare"}[:1]
	all := func() string {
		return told(s) + told(x) + told(m) + fmt.Sprint(s.Vars[:3], x.Locs[:3], told(x.Vals[:3]), m.Decls[0].Names[:3], m.Procs[0].Locs[:2])
	}
	before := all()
	got := fmt.Sprint(pretty.Text(m), pretty.Place(s, 0, 1), pretty.Act(s, 2), pretty.State(s, x))
	expect(t, "arguments", all(), before)
	expect(t, "the same again", fmt.Sprint(pretty.Text(m), pretty.Place(s, 0, 1), pretty.Act(s, 2), pretty.State(s, x)), got)
}
