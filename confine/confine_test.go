package confine_test

import (
	"fmt"
	"math"
	"math/rand"
	"strings"
	"testing"

	"plumbline/api"
	"plumbline/confine"
	"plumbline/kripke"
	"plumbline/zint"
)

// notConfined stands for the number of states of a system that is not confined.
const notConfined = -1

func TestP19_1Count(t *testing.T) {
	for _, x := range []struct {
		system string
		want   int
	}{
		{";", 1}, {"1;", 1}, {"2;", 2}, {"2 3;", 6}, {";0..3", 4}, {"2;0..3", 8}, {"2 3;0..3 -1..1", 72}, {"1;2..2", 1}, {"1;-2..-2 5..5", 1}, {"3;-5..-4", 6},
		// no combination at all
		{"0;", 0}, {"2 0;0..3", 0}, {"0 2;0..3", 0}, {"1;3..2", 0}, {"1;5..-5", 0}, {"1;3..2 0..3", 0}, {"1;0..3 3..2", 0}, {"1;18446744073709551616..0", 0}, {"0;3..2", 0}, {"0;0..1048575 0..1048575", 0}, {"1;0..1048575 0..1048575 1..0", 0}, {"0 1048576 1048576;", 0},
		// variables without bounds
		{"1;free", notConfined}, {"1;out", notConfined}, {"1;0..3 out", notConfined}, {"1;free 0..3", notConfined}, {"1;0..3 free", notConfined}, {"0;free", notConfined}, {"0;out", notConfined}, {"1;3..2 free", notConfined}, {"1;free 3..2", notConfined}, {"1;3..2 out", notConfined},
		// 2^20 values, and one more
		{"1;0..1048575", 1 << 20}, {";1..1048576", 1 << 20}, {"1;-524288..524287", 1 << 20}, {"1;0..1048576", notConfined}, {"1;-524288..524288", notConfined}, {"0;0..1048575", 0}, {"0;0..1048576", notConfined}, {"1;3..2 0..1048576", notConfined}, {"1;0..1048576 3..2", notConfined}, {"1;0..1048574", 1<<20 - 1},
		// 2^20 combinations, and more
		{"2;0..524287", 1 << 20}, {"2;0..524288", notConfined}, {"1024;0..1023", 1 << 20}, {"1025;0..1023", notConfined}, {"1024;0..1024", notConfined}, {"3;0..349524", 1<<20 - 1}, {"3;0..349525", notConfined}, {"1048576;", 1 << 20}, {"1048577;", notConfined}, {"1 1048576 1;2..2", 1 << 20}, {"1 1048577 1;2..2", notConfined}, {"2 1048576;", notConfined}, {"1048576 2;", notConfined}, {"16 16 16 16 16;", 1 << 20}, {"16 16 16 16 16 2;", notConfined}, {"17 16 16 16 16;", notConfined}, {";0..1023 0..1023", 1 << 20}, {";0..1024 0..1023", notConfined}, {";0..1023 0..1024", notConfined}, {";0..1048575 0..1048575 0..1048575", notConfined},
		// products that do not fit in a machine word
		{strings.Repeat("2 ", 63) + ";", notConfined}, {strings.Repeat("2 ", 64) + ";", notConfined}, {strings.Repeat("2 ", 64) + "0;", 0}, {strings.Repeat("65536 ", 4) + ";0..3", notConfined}, {strings.Repeat("1 ", 1000) + "2;0..3", 8},
		// bounds of more limbs than a machine word
		{"1;18446744073709551616..18446744073709551619", 4}, {"1;-18446744073709551619..-18446744073709551616", 4}, {"1;-18446744073709551616..18446744073709551616", notConfined}, {"1;0..18446744073709551615", notConfined}, {"1;0..18446744073709551616", notConfined}, {"1;0..4294967295", notConfined}, {"1;1..4294967296", notConfined}, {"1;0..9223372036854775807", notConfined}, {"1;-1..9223372036854775807", notConfined}, {"1;-9223372036854775808..9223372036854775807", notConfined}, {"1;123456789012345678901234567890..123456789012345678901235616465", 1 << 20}, {"1;123456789012345678901234567890..123456789012345678901235616466", notConfined},
	} {
		n, ok := confine.Count(system(x.system + ";true"))
		if ok != (x.want != notConfined) || ok && n != x.want || !ok && n != 0 {
			t.Errorf("%s: %d, %v", x.system, n, ok)
		}
	}
	s := system("2;0..3;true")
	s.Bounds = append(s.Bounds, api.Bound{}, api.Bound{Is: true, Hi: number("99999999")})
	if n, ok := confine.Count(s); n != 8 || !ok {
		t.Error("bounds beyond the variables")
	}
}

// TestP19_2Table: states by their numbers.
func TestP19_2Table(t *testing.T) {
	for _, x := range []struct {
		system string
		n      int
		want   string // none if empty
	}{
		{"2;0..3", 5, "1 / 1"}, {"2;0..3", 0, "0 / 0"}, {"2;0..3", 3, "0 / 3"}, {"2;0..3", 4, "1 / 0"}, {"2;0..3", 7, "1 / 3"}, {"2;0..3", 8, ""}, {"2;0..3", -1, ""}, {"2;0..3", math.MaxInt, ""}, {"2;0..3", math.MinInt, ""},
		{";", 0, " /"}, {";", 1, ""}, {";", -1, ""}, {"0;", 0, ""}, {"0;", -1, ""}, {"1;3..2", 0, ""}, {"1;7..7", 0, "0 / 7"}, {"1;7..7", 1, ""}, {"1;free", 0, ""}, {"1;out", 0, ""}, {"1;0..1048576", 0, ""},
		{"2 3;0..3 -1..1", 0, "0 0 / 0 -1"}, {"2 3;0..3 -1..1", 1, "0 0 / 0 0"}, {"2 3;0..3 -1..1", 3, "0 0 / 1 -1"}, {"2 3;0..3 -1..1", 12, "0 1 / 0 -1"}, {"2 3;0..3 -1..1", 36, "1 0 / 0 -1"}, {"2 3;0..3 -1..1", 71, "1 2 / 3 1"}, {"2 3;0..3 -1..1", 72, ""},
		{"1;0..1048575", 1<<20 - 1, "0 / 1048575"}, {"1;0..1048575", 1 << 20, ""}, {"1024;-1023..0", 1<<20 - 1, "1023 / 0"}, {"1024;-1023..0", 1 << 19, "512 / -1023"}, {"2;-18446744073709551616..-18446744073709551613", 6, "1 / -18446744073709551614"}, {"1;123456789012345678901234567890..123456789012345678901235616465", 1<<20 - 1, "0 / 123456789012345678901235616465"},
	} {
		s := system(x.system + ";true")
		got := ""
		y, ok := confine.State(s, x.n)
		if ok {
			got = told(y)
			if n, ok := confine.Number(s, y); n != x.n || !ok {
				t.Errorf("%s: %s has number %d, %v", x.system, got, n, ok)
			}
		} else if len(y.Locs)+len(y.Vals) > 0 {
			t.Errorf("%s: a state beside false", x.system)
		}
		expect(t, fmt.Sprint(x.system, " number ", x.n), got, x.want)
	}
	for _, x := range []struct{ system, state string }{
		{"2;0..3", "2 / 0"}, {"2;0..3", "-1 / 0"}, {"2;0..3", "0 / 4"}, {"2;0..3", "0 / -1"}, {"2;0..3", "0 /"}, {"2;0..3", "/ 0"}, {"2;0..3", "0 / 0 0"}, {"2;0..3", "0 0 / 0"}, {"2;0..3", "0 / 18446744073709551616"}, {"2;free", "0 / 0"}, {"2;out", "0 / 0"}, {"2;0..1048576", "0 / 0"}, {"0;", "0 /"}, {"0;", "/"}, {"1;3..2", "0 / 3"}, {"1;3..2", "0 / 2"}, {"1048577;", "0 /"},
	} {
		if n, ok := confine.Number(system(x.system+";true"), state(x.state)); n != 0 || ok {
			t.Errorf("%s in %s has number %d, %v", x.state, x.system, n, ok)
		}
	}
}

// TestP19_2Numbers: all numbers of small systems, and those just beyond them.
func TestP19_2Numbers(t *testing.T) {
	r := rand.New(rand.NewSource(190))
	total := 0
	for range 2000 {
		s := randomSystem(r)
		all := fitting(s)
		if n, ok := confine.Count(s); n != len(all) || !ok {
			t.Fatalf("%d, %v for %+v", n, ok, s)
		}
		for n := -2; n < len(all)+2; n++ {
			x, ok := confine.State(s, n)
			if n < 0 || n >= len(all) {
				if ok || len(x.Locs)+len(x.Vals) > 0 {
					t.Fatalf("state %d of %d: %s", n, len(all), told(x))
				}
				continue
			}
			k, ok2 := confine.Number(s, oddState(r, all[n]))
			if !ok || !ok2 || k != n || told(x) != told(all[n]) || !kripke.Fits(s, x) {
				t.Fatalf("state %d of %d: %s, number %d, not %s", n, len(all), told(x), k, told(all[n]))
			}
			total++
		}
	}
	if total < 10000 {
		t.Error(total)
	}
}

func TestP19_1Firsts(t *testing.T) {
	for _, x := range []struct{ system, want string }{
		{"2;0..3;true", "0 / 0; 0 / 1; 0 / 2; 0 / 3"}, {"2;0..3;false", ""}, {"2;0..3;x > 1", "0 / 2; 0 / 3"}, {"2;0..3;x > 3", ""}, {"2 2;0..1 -1..0;x + y = 0", "0 0 / 0 0; 0 0 / 1 -1"}, {";;true", " /"}, {";;false", ""}, {"3;;true", "0 /"}, {"0;;true", ""}, {"1 0;0..3;true", ""}, {"1;3..2;true", ""}, {"1;2..2;true", "0 / 2"}, {"2;free;true", ""}, {"2;0..3 out;true", ""}, {"2;0..1048576;x = 0", ""}, {"1048577;;true", ""}, {";0..1 0..1;true", " / 0 0;  / 0 1;  / 1 0;  / 1 1"}, {"2;0..524287;x = 0 | x = 524287", "0 / 0; 0 / 524287"}, {"3 2;-18446744073709551616..-18446744073709551614;x != -18446744073709551615", "0 0 / -18446744073709551616; 0 0 / -18446744073709551614"},
	} {
		expect(t, x.system, toldAll(confine.Firsts(system(x.system))), x.want)
	}
}

func TestP19_1FirstsByWords(t *testing.T) {
	r := rand.New(rand.NewSource(191))
	total := 0
	for range 2000 {
		s := randomSystem(r)
		var want []api.State
		for _, x := range fitting(s) {
			if kripke.First(s, x) {
				want = append(want, x)
			}
		}
		expect(t, "Firsts", toldAll(confine.Firsts(s)), toldAll(want))
		total += len(want)
	}
	if total < 3000 {
		t.Error(total)
	}
}

func TestP19_1Edges(t *testing.T) {
	const two = "1;0..1 5..7 0..0;true;0 0>0 / "
	for _, x := range []struct{ system, state, want string }{
		// pick by pick: the value of the first one is most significant, whatever the order of Moves
		{two + "x := *", "0 / 1 6 0", "0> 0 / 0 6 0; 0> 0 / 1 6 0"}, {two + "y := *", "0 / 1 6 0", "0> 0 / 1 5 0; 0> 0 / 1 6 0; 0> 0 / 1 7 0"}, {two + "x := *, y := *", "0 / 1 6 0", "0> 0 / 0 5 0; 0> 0 / 0 6 0; 0> 0 / 0 7 0; 0> 0 / 1 5 0; 0> 0 / 1 6 0; 0> 0 / 1 7 0"}, {two + "y := *, z := *, x := *", "0 / 1 6 0", "0> 0 / 0 5 0; 0> 0 / 0 6 0; 0> 0 / 0 7 0; 0> 0 / 1 5 0; 0> 0 / 1 6 0; 0> 0 / 1 7 0"}, {two + "z := *", "0 / 1 6 0", "0> 0 / 1 6 0"}, {two + "y := *, x := y - 5", "0 / 0 6 0", "0> 0 / 1 5 0; 0> 0 / 1 6 0; 0> 0 / 1 7 0"}, {two + "y := *, x := y - 5", "0 / 0 7 0", "-1> 0 / 0 7 0"}, {two + "y := *, y := 9, x := 1, x := *", "0 / 0 7 0", "0> 0 / 1 5 0; 0> 0 / 1 6 0; 0> 0 / 1 7 0"}, {two + "y := 9, y := *", "0 / 0 7 0", "-1> 0 / 0 7 0"}, {two + "y := *, 3 := *", "0 / 0 7 0", "-1> 0 / 0 7 0"}, {two + "y := *, -1 := 0", "0 / 0 7 0", "-1> 0 / 0 7 0"},
		// act by act
		{"2 2;0..3;true;0 0>1 / x := x + 1;1 0>1;0 0>0 / x := 0;1 1>0", "0 0 / 2", "0> 1 0 / 3; 1> 0 1 / 2; 2> 0 0 / 0"}, {"2 2;0..3;true;0 0>1 / x := x + 1;1 0>1;0 0>0 / x := 0;1 1>0", "0 0 / 3", "1> 0 1 / 3; 2> 0 0 / 0"}, {"2 2;0..3;true;0 0>1 / x := x + 1;1 0>1;0 0>0 / x := 0;1 1>0", "1 1 / 3", "3> 1 0 / 3"}, {"2 2;0..3;true;0 0>1 / x := x + 1;1 0>1;0 0>0 / x := 0;1 1>0", "0 1 / 3", "2> 0 1 / 0; 3> 0 0 / 3"}, {"1;0..1;true;0 0>0 / x := *;0 0>0;0 0>0 / x := *", "0 / 1", "0> 0 / 0; 0> 0 / 1; 1> 0 / 1; 2> 0 / 0; 2> 0 / 1"}, {"2;0..3;true;1 0>1;0 0>2;0 -1>0;0 0>1 x > 5;0 0>1", "0 / 3", "4> 1 / 3"},
		// stuck
		{"2;0..3;true;0 0>1 / x := x + 1", "0 / 3", "-1> 0 / 3"}, {"2;0..3;true;0 0>1 / x := x + 1", "1 / 0", "-1> 1 / 0"}, {";;true", "/", "-1>  /"}, {"1;;true", "0 /", "-1> 0 /"}, {";2..3;true", "/ 3", "-1>  / 3"}, {"1;0..3;true;0 0>0", "0 / 3", "0> 0 / 3"},
		// states that do not fit, and systems that are not confined
		{"1;0..3;true;0 0>0", "0 / 4", ""}, {"1;0..3;true;0 0>0", "1 / 3", ""}, {"1;0..3;true;0 0>0", "0 /", ""}, {"1;0..3;true;0 0>0", "/ 0", ""}, {"1;0..3;true;0 0>0", "0 / 0 0", ""}, {"1;free;true;0 0>0", "0 / 0", ""}, {"1;out;true", "0 / 0", ""}, {"1;0..1048576;true;0 0>0", "0 / 0", ""}, {"1;0..1048575;true;0 0>0", "0 / 0", "0> 0 / 0"}, {"1;3..2;true;0 0>0 / x := *", "0 / 2", ""}, {"0;;true;0 0>0", "0 /", ""}, {"1048577;;true;0 0>0", "0 /", ""},
		{"1;-18446744073709551616..-18446744073709551615;true;0 0>0 / x := *", "0 / -18446744073709551615", "0> 0 / -18446744073709551616; 0> 0 / -18446744073709551615"},
	} {
		expect(t, x.state+" in "+x.system, toldEdges(confine.Edges(system(x.system), state(x.state))), x.want)
	}
}

// picksByWords are all lists of picks for the variables that an act sets to any value, in
// order.
func picksByWords(s api.Sys, a api.Act) [][]api.Int {
	all := [][]api.Int{nil}
	for v := range s.Vars {
		any := false
		for _, m := range a.Moves {
			if m.V == v {
				any = m.Any
				break
			}
		}
		if !any {
			continue
		}
		var longer [][]api.Int
		for _, picks := range all {
			for val := s.Bounds[v].Lo; zint.Cmp(val, s.Bounds[v].Hi) <= 0; val = zint.Add(val, zint.Of(1)) {
				longer = append(longer, append(picks[:len(picks):len(picks)], val))
			}
		}
		all = longer
	}
	return all
}

// TestP19_2EdgesByWords: every step of small systems, by asking Leads of all states, and
// by Go with all picks.
func TestP19_2EdgesByWords(t *testing.T) {
	r := rand.New(rand.NewSource(192))
	steps, stuck := 0, 0
	for range 2000 {
		s := randomSystem(r)
		all := fitting(s)
		for range min(len(all), 6) {
			x := oddState(r, one(r, all...))
			got := toldEdges(confine.Edges(s, x))
			want := stepsByWords(s, x, all)
			expect(t, "Leads", got, toldEdges(want))
			if want[0].Act == -1 {
				stuck++
				continue
			}
			var picked []confine.Edge
			for act, a := range s.Acts {
				for _, picks := range picksByWords(s, a) {
					if y, ok := kripke.Go(s, x, act, picks); ok {
						picked = append(picked, confine.Edge{Act: act, To: y})
					}
				}
			}
			expect(t, "Go", got, toldEdges(picked))
			steps += len(want)
		}
	}
	if steps < 3000 || stuck < 1000 {
		t.Errorf("%d steps, %d stuck states", steps, stuck)
	}
}

// TestP19_1EdgesMuch: an act with 2^20 picks.
func TestP19_1EdgesMuch(t *testing.T) {
	s := system("1;0..15 1..4096 -8..7;true;0 0>0 / y := *, x := *, z := *")
	edges := confine.Edges(s, state("0 / 3 3 3"))
	if len(edges) != 1<<20 {
		t.Fatal(len(edges))
	}
	for n, e := range edges {
		if n%4099 > 0 && n < len(edges)-1 {
			continue
		}
		if k, ok := confine.Number(s, e.To); k != n || !ok || e.Act != 0 {
			t.Errorf("edge %d leads to number %d", n, k)
		}
	}
}
