package kripke_test

import (
	"math/rand"
	"testing"

	"plumbline/api"
	"plumbline/kripke"
)

func TestP18_1Fits(t *testing.T) {
	const huge = "123456789012345678901234567890"
	for _, x := range []struct {
		system, state string
		want          bool
	}{
		// no locations and values, too few, and too many
		{";;true", "/", true}, {";;true", "0 /", false}, {";;true", "/ 0", false}, {"1;;true", "0 /", true}, {"1;;true", "/", false}, {"1;;true", "0 0 /", false}, {"1;;true", "0 / 0", false}, {"2 3;free;true", "1 2 / 5", true}, {"2 3;free;true", "1 / 5", false}, {"2 3;free;true", "1 2 0 / 5", false}, {"2 3;free;true", "1 2 /", false}, {"2 3;free;true", "1 2 / 5 0", false},
		// locations that do not exist
		{"2 3;;true", "0 0 /", true}, {"2 3;;true", "1 2 /", true}, {"2 3;;true", "2 0 /", false}, {"2 3;;true", "0 3 /", false}, {"2 3;;true", "-1 0 /", false}, {"2 3;;true", "0 -1 /", false}, {"2 3;;true", "9223372036854775807 0 /", false}, {"2 3;;true", "0 -9223372036854775808 /", false}, {"0;;true", "0 /", false}, {"0;;true", "-1 /", false}, {"1 0;;true", "0 0 /", false}, {"0;;true", "/", false},
		// values at the ends of bounds, and beyond them
		{";0..3;true", "/ 0", true}, {";0..3;true", "/ 3", true}, {";0..3;true", "/ -1", false}, {";0..3;true", "/ 4", false}, {";-5..-2;true", "/ -5", true}, {";-5..-2;true", "/ -2", true}, {";-5..-2;true", "/ -6", false}, {";-5..-2;true", "/ -1", false}, {";2..2;true", "/ 2", true}, {";2..2;true", "/ 1", false}, {";2..2;true", "/ 3", false}, {";3..2;true", "/ 2", false}, {";3..2;true", "/ 3", false}, {";1..-1;true", "/ 0", false},
		{";-" + huge + ".." + huge + ";true", "/ " + huge, true}, {";-" + huge + ".." + huge + ";true", "/ -" + huge, true}, {";-" + huge + ".." + huge + ";true", "/ " + huge + "0", false}, {";" + huge + ".." + huge + "1;true", "/ 7", false},
		// variables without bounds
		{";free;true", "/ -9", true}, {";free;true", "/ " + huge, true}, {";out;true", "/ " + huge, true}, {";free out;true", "/ 9 -9", true}, {";0..3 out out;true", "/ 3 4 -1", true}, {";0..3 out out;true", "/ 4 4 -1", false}, {";0..3 free 1..2;true", "/ 3 4 2", true}, {";0..3 free 1..2;true", "/ 3 4 3", false},
	} {
		if kripke.Fits(system(x.system), state(x.state)) != x.want {
			t.Errorf("%s in %s is not %v", x.state, x.system, x.want)
		}
	}
	s := system("1;0..3;true")
	s.Bounds = append(s.Bounds, api.Bound{Is: true}, api.Bound{Is: true, Lo: number("2"), Hi: number("1")})
	if !kripke.Fits(s, state("0 / 3")) || kripke.Fits(s, state("0 / 4")) || kripke.Fits(s, state("0 / 3 0")) {
		t.Error("bounds beyond the variables")
	}
}

func TestP18_1First(t *testing.T) {
	for _, x := range []struct {
		system, state string
		want          bool
	}{
		{";;true", "/", true}, {";;false", "/", false}, {";;true", "0 /", false}, {"1;;true", "0 /", true}, {"2;;true", "1 /", false}, {"2 2;;true", "0 0 /", true}, {"2 2;;true", "0 1 /", false}, {"2 2;;true", "1 0 /", false}, {"2 2;;true", "0 /", false}, {"2;;true", "-1 /", false}, {"0;;true", "0 /", false}, {"1 0;;true", "0 0 /", false},
		{"1;free;x = 2", "0 / 2", true}, {"1;free;x = 2", "0 / 3", false}, {"2;free;x = 2", "1 / 2", false}, {"1;free;x < x", "0 / 0", false}, {"1;0..3;x > 1", "0 / 3", true}, {"1;0..3;x > 1", "0 / 4", false}, {"1;0..3;x > 1", "0 / 1", false}, {"1;free free;x + y = 5 | x = y", "0 / 2 3", true}, {"1;free free;x + y = 5 | x = y", "0 / 2 2", true}, {"1;free free;x + y = 5 | x = y", "0 / 2 1", false}, {"1;3..2;true", "0 / 3", false},
		{"1;free;y = 0", "0 / 3", true}, {"1;free;y = 1", "0 / 3", false}, // y is no variable
	} {
		if kripke.First(system(x.system), state(x.state)) != x.want {
			t.Errorf("%s in %s is not %v", x.state, x.system, x.want)
		}
	}
}

func TestP18_1Same(t *testing.T) {
	r := rand.New(rand.NewSource(180))
	all := []string{"/", "0 /", "1 /", "-1 /", "0 0 /", "0 1 /", "1 0 /", "/ 0", "/ 1", "/ -1", "/ 0 0", "/ 0 1", "/ 1 0", "0 / 0", "0 / 1", "1 / 0", "0 1 / 2 3", "0 1 / 2 -3", "0 1 / 3 2", "/ 4294967296", "/ 4294967297", "/ 18446744073709551616", "/ -18446744073709551616"}
	for i, text := range all {
		for j, other := range all {
			x, y := state(text), state(other)
			for v := range y.Vals {
				y.Vals[v] = odd(r, y.Vals[v])
			}
			if kripke.Same(x, y) != (i == j) || kripke.Same(y, x) != (i == j) {
				t.Errorf("%s and %s", text, other)
			}
		}
	}
}

func TestP18_1FitsByWords(t *testing.T) {
	r := rand.New(rand.NewSource(181))
	counts := map[bool]int{}
	for range 1500 {
		s := randomSystem(r)
		for _, p := range window(s, 4) {
			switch r.Intn(200) {
			case 0:
				p.locs = append(p.locs, r.Intn(2))
			case 1:
				p.locs = p.locs[:max(len(p.locs)-1, 0)]
			case 2:
				p.vals = append(p.vals, r.Intn(2))
			case 3:
				p.vals = p.vals[:max(len(p.vals)-1, 0)]
			}
			x := stateOf(r, p)
			if kripke.Fits(s, x) != fits(s, p) || kripke.First(s, x) != initial(s, p) {
				t.Fatalf("%v in %+v: %v, %v", p, s, fits(s, p), initial(s, p))
			}
			counts[fits(s, p)]++
		}
	}
	if counts[true] < 20000 || counts[false] < 20000 {
		t.Errorf("%v", counts)
	}
}
