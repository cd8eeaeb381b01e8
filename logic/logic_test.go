package logic_test

import (
	"math"
	"slices"
	"testing"

	"plumbline/api"
	"plumbline/logic"
	"plumbline/rel"
	"plumbline/term"
	"plumbline/zint"
)

func TestP5_1OfTruth(t *testing.T) {
	for _, odd := range append(oddTerms(), sum(3, 1, -2), sum(-4), api.Term{}) {
		for _, eq := range []bool{false, true} {
			r := api.Rel{T: odd, Eq: eq}
			expect(t, "Of", logic.Of(r), api.Form{Kind: api.Atom, R: plain(r)})
		}
	}
	expect(t, "Of", logic.Of(api.Rel{T: oddTerms()[0], Eq: true}), zero(1, 2, 2))
	expect(t, "Truth", logic.Truth(true), yes())
	expect(t, "Truth", logic.Truth(false), no())
}

func TestP5_1DenyAllAny(t *testing.T) {
	all := samples()
	for i, f := range all {
		g, h := all[(7*i)%len(all)], all[(11*i)%len(all)]
		expect(t, "Deny", logic.Deny(f), of(api.Not, plainCopy(f)))
		expect(t, "All", logic.All(f), of(api.And, plainCopy(f)))
		expect(t, "Any", logic.Any(f), of(api.Or, plainCopy(f)))
		expect(t, "All", logic.All(f, g, h), of(api.And, plainCopy(f), plainCopy(g), plainCopy(h)))
		expect(t, "Any", logic.Any(f, g, h), of(api.Or, plainCopy(f), plainCopy(g), plainCopy(h)))
	}
	expect(t, "All of none", logic.All(), of(api.And))
	expect(t, "Any of none", logic.Any(), of(api.Or))
	expect(t, "All of none", logic.All([]api.Form{}...), of(api.And))
	expect(t, "Deny of Not with no kid", logic.Deny(of(api.Not)), of(api.Not, of(api.Not)))
	expect(t, "Deny of Not with two kids", logic.Deny(of(api.Not, least(1, 1), least(2, 1))), of(api.Not, of(api.Not, least(1, 1))))
	atom := zero(1, 2)
	atom.Kids = []api.Form{yes()}
	expect(t, "Any of an Atom with a kid", logic.Any(atom), of(api.Or, zero(1, 2)))
	for _, kind := range unknown() {
		f := api.Form{Kind: kind, R: atom.R, Kids: []api.Form{yes()}}
		expect(t, "All of an unknown kind", logic.All(f, of(api.Or, f)), of(api.And, no(), of(api.Or, no())))
	}
	and := api.Form{Kind: api.And, R: atom.R, Kids: []api.Form{{Kind: api.True, R: atom.R, Kids: []api.Form{no()}}}}
	expect(t, "Any of And with a relation", logic.Any(and), of(api.Or, of(api.And, yes())))
}

func TestP5_1Compare(t *testing.T) {
	l, r := sum(2, 3), sum(-1, 1, 2)
	for op, want := range map[int]api.Form{
		api.Eq: zero(3, 2, -2), api.Ne: of(api.Not, zero(3, 2, -2)),
		api.Lt: least(-4, -2, 2), api.Le: least(-3, -2, 2),
		api.Gt: least(2, 2, -2), api.Ge: least(3, 2, -2),
	} {
		expect(t, "Compare", logic.Compare(op, l, r), want)
	}
	for _, op := range []int{-1, 6, 7, math.MaxInt, math.MinInt} {
		expect(t, "Compare with no op", logic.Compare(op, l, r), no())
	}
	expect(t, "Compare of a term with itself", logic.Compare(api.Lt, l, l), least(-1))
	expect(t, "Compare of 4x and 6", logic.Compare(api.Ge, sum(0, 4), sum(6)), least(-6, 4))
}

func TestP5_1CompareHolds(t *testing.T) {
	terms := append(oddTerms(), sum(0), sum(1, 1), sum(-3, 2, 1), sum(0, 0, -1), sum(1, 1))
	for _, l := range terms {
		for _, r := range terms {
			for _, vals := range points(3) {
				c := zint.Cmp(term.Value(l, vals), term.Value(r, vals))
				for op, want := range []bool{c == 0, c != 0, c < 0, c <= 0, c > 0, c >= 0} {
					if f := logic.Compare(op, l, r); holds(f, vals) != want || logic.Holds(f, vals) != want {
						t.Errorf("Compare(%d, %v, %v) at %v is not %v", op, l, r, vals, want)
					}
				}
			}
		}
	}
}

func TestP5_1Holds(t *testing.T) {
	lists := append(points(3), nil, []api.Int{number(2)}, []api.Int{{Neg: true}, {Neg: true, Abs: api.Nat{2, 0}}, number(9)})
	for _, f := range samples() {
		for _, vals := range lists {
			if got := logic.Holds(f, vals); got != holds(f, vals) {
				t.Errorf("Holds of %v at %v is %v", f, vals, got)
			}
		}
	}
	for _, x := range []struct {
		f    api.Form
		want bool
	}{
		{of(api.Not), false}, {of(api.And), true}, {of(api.Or), false}, {of(api.Not, of(api.Not)), true},
		{of(api.Not, no(), yes()), true}, {of(api.Not, yes(), no()), false},
		{of(api.True, no()), true}, {of(api.False, yes()), false}, {of(6, yes()), false}, {of(-1, yes()), false},
		{of(api.Not, of(6)), true}, {of(api.And, yes(), no()), false}, {of(api.Or, no(), yes()), true},
		{least(0, 0, 0, 1), true}, {least(-1, 0, 0, 1), false},
	} {
		if got := logic.Holds(x.f, []api.Int{number(-1), number(-1)}); got != x.want {
			t.Errorf("Holds of %v is %v", x.f, got)
		}
	}
}

func size(f api.Form) int {
	n := 1
	for _, kid := range counting(f) {
		n += size(kid)
	}
	return n
}

func TestP5_1Size(t *testing.T) {
	for _, f := range samples() {
		if got := logic.Size(f); got != size(f) {
			t.Errorf("Size of %v is %d", f, got)
		}
	}
	for _, x := range []struct {
		f    api.Form
		want int
	}{
		{yes(), 1}, {of(api.And), 1}, {of(api.Not), 1}, {least(0, 1), 1}, {of(api.True, no()), 1}, {of(9, no()), 1},
		{of(api.Not, of(api.And, yes(), no()), no()), 4}, {of(api.Or, yes(), no(), of(api.Not, yes())), 5},
		{api.Form{Kind: api.Atom, Kids: []api.Form{yes()}}, 1},
	} {
		if got := logic.Size(x.f); got != x.want {
			t.Errorf("Size of %v is %d", x.f, got)
		}
	}
}

func TestP5_1Vars(t *testing.T) {
	for _, x := range []struct {
		f    api.Form
		want []int
	}{
		{yes(), nil}, {of(api.And), nil}, {least(3), nil}, {least(3, 0, 2), []int{1}},
		{of(api.Or, least(0, 0, 0, 1), zero(1, 0, 1, 1)), []int{1, 2}},
		{of(api.Not, least(0, 0, 1), least(0, 1)), []int{1}},
		{of(api.And, of(api.Not, least(0, 0, 0, 5)), of(7, least(0, 1)), least(2, 0, 1), least(2, 0, 1)), []int{1, 2}},
		{api.Form{Kind: api.And, R: least(0, 1).R}, nil},
		{api.Form{Kind: api.True, R: least(0, 1).R}, nil},
		{api.Form{Kind: 8, R: least(0, 1).R}, nil},
		{api.Form{Kind: api.Atom, Kids: []api.Form{least(0, 1)}}, nil},
		{api.Form{Kind: api.Atom, R: api.Rel{T: oddTerms()[2]}}, nil},
		{logic.Of(rel.Least(term.Var(math.MaxInt))), []int{math.MaxInt}},
		{of(api.And, logic.Of(rel.Least(term.Var(math.MaxInt))), least(0, 1)), []int{0, math.MaxInt}},
	} {
		if got := logic.Vars(x.f); !slices.Equal(got, x.want) {
			t.Errorf("Vars of %v: %v", x.f, got)
		}
	}
	for _, f := range samples() {
		found := map[int]bool{}
		var find func(f api.Form)
		find = func(f api.Form) {
			if f.Kind == api.Atom {
				for _, v := range term.Vars(f.R.T) {
					found[v] = true
				}
			}
			for _, kid := range counting(f) {
				find(kid)
			}
		}
		find(f)
		got := logic.Vars(f)
		for i, v := range got {
			if !found[v] || i > 0 && got[i-1] >= v {
				t.Errorf("Vars of %v: %v", f, got)
			}
		}
		if len(got) != len(found) {
			t.Errorf("Vars of %v: %v", f, got)
		}
	}
}

func TestP5_1PutAllMove(t *testing.T) {
	by := []api.Term{term.Var(1), sum(3, 2, 0, -2), oddTerms()[1]}
	for _, f := range samples() {
		for _, vs := range [][]int{nil, {0}, {1, 0}, {0, 0, 1, -1}, {2, 1, 0, 5}, {7, 1}} {
			for n := range len(by) + 1 {
				want := copied(f, func(r api.Rel) api.Rel { return rel.PutAll(r, vs, by[:n]) })
				expect(t, "PutAll", logic.PutAll(f, vs, by[:n]), want)
			}
		}
		for _, n := range []int{0, 2, -1, math.MaxInt, math.MinInt} {
			want := copied(f, func(r api.Rel) api.Rel { return rel.Move(r, n) })
			expect(t, "Move", logic.Move(f, n), want)
		}
	}
	f := of(api.Not, of(api.And, least(0, 1, 3), zero(2, 1)), yes())
	swapped := logic.PutAll(f, []int{0, 1}, []api.Term{term.Var(1), term.Var(0)})
	expect(t, "PutAll", swapped, of(api.Not, of(api.And, least(0, 3, 1), zero(2, 0, 1))))
	expect(t, "Move", logic.Move(f, -1), of(api.Not, of(api.And, least(0, 3), zero(2))))
	expect(t, "Move", logic.Move(f, 1), of(api.Not, of(api.And, least(0, 0, 1, 3), zero(2, 0, 1))))
}

func TestP5_1Same(t *testing.T) {
	all := samples()[:120]
	for _, f := range all {
		for _, g := range all {
			want := shown(plainCopy(f)) == shown(plainCopy(g))
			if got := logic.Same(f, g); got != want {
				t.Errorf("Same of %v and %v is %v", f, g, got)
			}
		}
		if !logic.Same(f, plainCopy(f)) || !logic.Same(plainCopy(f), f) {
			t.Errorf("Same of %v and its copy", f)
		}
	}
	odd := api.Form{Kind: api.And, R: zero(1, 2).R, Kids: []api.Form{of(17, yes()), of(api.Not, yes(), no())}}
	for _, x := range []struct {
		f, g api.Form
		want bool
	}{
		{odd, of(api.And, no(), of(api.Not, yes())), true}, {odd, of(api.And, no(), of(api.Not)), false},
		{of(6), of(-3), true}, {of(6), no(), true}, {no(), of(6), true}, {yes(), of(6), false}, {of(api.Not), no(), false}, {of(api.And), yes(), false},
		{of(api.And, yes()), of(api.And, yes(), yes()), false}, {of(api.And, yes(), no()), of(api.And, no(), yes()), false},
		{least(1, 1), zero(1, 1), false}, {least(1, 1), least(2, 1), false}, {least(1, 1), least(1, 0, 1), false},
		{logic.Of(api.Rel{T: oddTerms()[0]}), api.Form{Kind: api.Atom, R: api.Rel{T: oddTerms()[0]}}, true},
		{least(-6, 4), least(-2, 1), false},
	} {
		if got := logic.Same(x.f, x.g); got != x.want {
			t.Errorf("Same of %v and %v is %v", x.f, x.g, got)
		}
	}
}

func TestP5_1Text(t *testing.T) {
	for _, x := range []struct {
		f    api.Form
		want string
	}{
		{yes(), "true"}, {no(), "false"}, {of(6, yes()), "false"}, {of(-1), "false"},
		{least(2, 3, -1), "3*x - y + 2 >= 0"}, {zero(0, 0, 0, 0, 1), "v3 = 0"},
		{api.Form{Kind: api.Atom, R: api.Rel{T: oddTerms()[0]}}, "2*x + 2*y + 1 >= 0"},
		{of(api.Not), "!()"}, {of(api.Not, least(0, 1)), "!(x >= 0)"}, {of(api.Not, least(0, 1), yes()), "!(x >= 0)"},
		{of(api.And), "()"}, {of(api.Or), "()"}, {of(api.And, yes()), "(true)"}, {of(api.Or, no()), "(false)"},
		{of(api.And, least(0, 1), zero(-1, 0, 1)), "(x >= 0 & y - 1 = 0)"},
		{of(api.Or, least(0, 1), of(api.Not, of(api.And, yes(), no(), of(8)))), "(x >= 0 | !((true & false & false)))"},
		{of(api.True, no()), "true"}, {of(api.False, yes()), "false"},
		{of(api.Or, of(api.Or), of(api.Not), of(api.And)), "(() | !() | ())"},
	} {
		if got := logic.Text(x.f, names); got != x.want {
			t.Errorf("Text of %v: %q, want %q", x.f, got, x.want)
		}
	}
	if got := logic.Text(of(api.And, zero(0, 1), least(1, 0, 1)), []string{""}); got != "( = 0 & v1 + 1 >= 0)" {
		t.Errorf("Text with other names: %q", got)
	}
}

func TestP5_1DeepAndWide(t *testing.T) {
	deep := chain(60000, api.And, api.Or, api.Not)
	if got := logic.Size(deep); got != 1+20000*(2+2+1) {
		t.Errorf("Size of a deep formula: %d", got)
	}
	if got := logic.Vars(deep); !slices.Equal(got, []int{0, 1}) {
		t.Errorf("Vars of a deep formula: %v", got)
	}
	if got := logic.Vars(wide(20000, api.Or)); len(got) != 20000 || got[19999] != 19999 {
		t.Errorf("Vars of a wide formula: %d", len(got))
	}
	if !logic.Same(logic.Move(deep, 0), deep) || logic.Holds(deep, nil) != holds(deep, nil) {
		t.Error("a deep formula")
	}
	if got := len(logic.Text(chain(1<<16, api.Not), names)); got != len("x >= 0")+3<<16 {
		t.Errorf("Text of a deep formula: %d", got)
	}
}
