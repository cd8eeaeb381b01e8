package rel_test

import (
	"math"
	"slices"
	"testing"

	"plumbline/api"
	"plumbline/rel"
	"plumbline/term"
	"plumbline/zint"
)

func TestP4_1ZeroLeast(t *testing.T) {
	for _, a := range edges() {
		expect(t, "Zero", rel.Zero(a), api.Rel{T: a, Eq: true})
		expect(t, "Least", rel.Least(a), api.Rel{T: a})
	}
}

func TestP4_1Tight(t *testing.T) {
	huge := api.Int{Neg: true, Abs: api.Nat{0, 0, 4, 0}}
	halved := api.Int{Neg: true, Abs: api.Nat{0, 0, 2}}
	for _, x := range []struct {
		r, want api.Rel
		truth   int
	}{
		{least(-6, part(4, 0)), least(-2, part(1, 0)), 0},
		{least(6, part(4, 0)), least(1, part(1, 0)), 0},
		{least(-1, part(-4, 0)), least(-1, part(-1, 0)), 0},
		{least(5, part(-4, 0), part(6, 1)), least(2, part(-2, 0), part(3, 1)), 0},
		{least(5, part(6, 1), part(-4, 0)), least(2, part(-2, 0), part(3, 1)), 0},
		{least(5, part(3, 1), part(-2, 0)), least(5, part(-2, 0), part(3, 1)), 0},
		{api.Rel{T: api.Term{Parts: []api.Part{{V: 3, C: huge}, part(-6, 4)}, K: huge}},
			api.Rel{T: api.Term{Parts: []api.Part{{V: 3, C: halved}, part(-3, 4)}, K: halved}}, 0},
		{least(0), api.Rel{}, 1}, {least(3), api.Rel{}, 1}, {least(-3), api.Rel{}, -1}, {api.Rel{}, api.Rel{}, 1},
		{least(0, part(2, 0), part(-2, 0)), api.Rel{}, 1}, {least(-1, part(2, 0), part(-2, 0)), api.Rel{}, -1},
		{least(-1, part(2, -5)), api.Rel{}, -1}, {least(1, part(0, 5)), api.Rel{}, 1},
		{zero(-6, part(4, 0)), api.Rel{}, -1},
		{zero(-8, part(4, 0)), zero(-2, part(1, 0)), 0},
		{zero(-8, part(-4, 0)), zero(2, part(1, 0)), 0},
		{zero(8, part(-4, 0), part(6, 1)), zero(-4, part(2, 0), part(-3, 1)), 0},
		{zero(8, part(-6, 1), part(4, 0)), zero(4, part(2, 0), part(-3, 1)), 0},
		{zero(7, part(-4, 0), part(6, 1)), api.Rel{}, -1},
		{zero(-7, part(3, 1), part(0, 0)), api.Rel{}, -1},
		{zero(0, part(-3, 1), part(5, -1)), zero(0, part(1, 1)), 0},
		{zero(0), api.Rel{}, 1}, {zero(3), api.Rel{}, -1}, {zero(-3), api.Rel{}, -1},
		{zero(0, part(2, 0), part(-2, 0)), api.Rel{}, 1}, {zero(1, part(2, 0), part(-2, 0)), api.Rel{}, -1},
	} {
		got, truth := rel.Tight(x.r)
		expect(t, "Tight of "+texts([]api.Rel{x.r}), got, x.want)
		if truth != x.truth {
			t.Errorf("Tight of %s: %d, want %d", texts([]api.Rel{x.r}), truth, x.truth)
		}
	}
	for _, n := range oddZeros() {
		for _, eq := range []bool{false, true} {
			if got, truth := rel.Tight(api.Rel{T: api.Term{Parts: []api.Part{{V: 2, C: n}}, K: n}, Eq: eq}); truth != 1 || got.T.Parts != nil || got.Eq {
				t.Errorf("Tight of 0 as %v: %v, %d", n, got, truth)
			}
		}
	}
}

// isTight is the document's definition.
func isTight(r api.Rel) bool {
	if len(r.T.Parts) == 0 {
		return false
	}
	content := term.Content(r.T)
	if r.Eq {
		content = zint.Gcd(content, r.T.K)
	}
	return zint.Text(content) == "1" && (!r.Eq || zint.Sign(r.T.Parts[0].C) > 0)
}

func TestP4_1TightIsTight(t *testing.T) {
	for _, r := range samples() {
		tight, truth := rel.Tight(r)
		if truth != 0 {
			expect(t, "Tight beside a truth", tight, api.Rel{})
			continue
		}
		if !isTight(tight) || tight.Eq != r.Eq {
			t.Errorf("Tight of %s: %s", texts([]api.Rel{r}), texts([]api.Rel{tight}))
		}
		again, truth := rel.Tight(tight)
		expect(t, "Tight of Tight", again, tight)
		if truth != 0 {
			t.Errorf("Tight of Tight: %d", truth)
		}
	}
}

func TestP4_1Holds(t *testing.T) {
	lists := append(points(4), nil, oddZeros(), []api.Int{number(1)}, []api.Int{{Neg: true, Abs: api.Nat{3, 0}}, {Abs: api.Nat{0, 0, 9}}})
	for _, r := range samples() {
		for _, vals := range lists {
			if got, want := rel.Holds(r, vals), hold([]api.Rel{r}, vals); got != want {
				t.Errorf("Holds of %s at %v is %v", texts([]api.Rel{r}), vals, got)
			}
		}
	}
	if !rel.Holds(least(-2, part(1, 0)), []api.Int{number(2)}) || rel.Holds(least(-2, part(1, 0)), []api.Int{number(1)}) ||
		!rel.Holds(zero(-2, part(1, 0)), []api.Int{number(2)}) || rel.Holds(zero(-2, part(1, 0)), []api.Int{number(3)}) {
		t.Error("Holds of x - 2")
	}
}

func TestP4_1Deny(t *testing.T) {
	for _, x := range []struct {
		r    api.Rel
		want []api.Rel
	}{
		{least(-3, part(1, 0)), []api.Rel{least(2, part(-1, 0))}},
		{least(5, part(4, 1), part(-2, 0)), []api.Rel{least(-6, part(2, 0), part(-4, 1))}},
		{zero(5, part(4, 1), part(-2, 0)), []api.Rel{least(4, part(-2, 0), part(4, 1)), least(-6, part(2, 0), part(-4, 1))}},
		{api.Rel{}, []api.Rel{least(-1)}},
		{zero(0), []api.Rel{least(-1), least(-1)}},
		{zero(3, part(2, 0), part(-2, 0), part(5, -1)), []api.Rel{least(2), least(-4)}},
	} {
		expectAll(t, "Deny of "+texts([]api.Rel{x.r}), rel.Deny(x.r), x.want)
	}
	for _, r := range samples() {
		want := []api.Rel{rel.Least(term.Sub(term.Scale(r.T, number(-1)), sumOf(1)))}
		if r.Eq {
			want = append([]api.Rel{rel.Least(term.Sub(r.T, sumOf(1)))}, want...)
		}
		expectAll(t, "Deny", rel.Deny(r), want)
	}
}

func TestP4_1PutMoveVars(t *testing.T) {
	for _, r := range samples() {
		for _, v := range []int{0, 1, 3, -1, math.MaxInt} {
			for _, by := range edges() {
				expect(t, "Put", rel.Put(r, v, by), api.Rel{T: term.Put(r.T, v, by), Eq: r.Eq})
			}
		}
		for _, vs := range [][]int{nil, {0}, {1, 0}, {0, 0, 1, -1}, {2, 1, 0}} {
			by := []api.Term{term.Var(1), sumOf(3, part(2, 0), part(-2, 2)), sumOf(-7)}
			expect(t, "PutAll", rel.PutAll(r, vs, by), api.Rel{T: term.PutAll(r.T, vs, by), Eq: r.Eq})
			expect(t, "PutAll", rel.PutAll(r, vs, by[:1]), api.Rel{T: term.PutAll(r.T, vs, by[:1]), Eq: r.Eq})
		}
		for _, n := range []int{0, 2, -1, math.MaxInt, math.MinInt} {
			expect(t, "Move", rel.Move(r, n), api.Rel{T: term.Move(r.T, n), Eq: r.Eq})
		}
		if got, want := rel.Vars(r), term.Vars(r.T); !slices.Equal(got, want) {
			t.Errorf("Vars of %s: %v", texts([]api.Rel{r}), got)
		}
	}
	expect(t, "Put", rel.Put(zero(3, part(2, 0)), 0, sumOf(-1, part(1, 1))), zero(1, part(2, 1)))
	expect(t, "PutAll", rel.PutAll(least(0, part(1, 0), part(3, 1)), []int{0, 1}, []api.Term{term.Var(1), term.Var(0)}), least(0, part(3, 0), part(1, 1)))
	expect(t, "Move", rel.Move(least(0, part(1, 0), part(3, 1)), -1), least(0, part(3, 0)))
	if got := rel.Vars(zero(1, part(2, 3), part(1, 1), part(0, 0), part(4, -1))); !slices.Equal(got, []int{1, 3}) {
		t.Errorf("Vars = %v", got)
	}
}

func TestP4_1CmpSame(t *testing.T) {
	for _, a := range samples() {
		for _, b := range samples() {
			want := term.Cmp(a.T, b.T)
			if want == 0 && a.Eq != b.Eq {
				want = 1
				if b.Eq {
					want = -1
				}
			}
			if got := rel.Cmp(a, b); got != want {
				t.Errorf("Cmp of %s: %d", texts([]api.Rel{a, b}), got)
			}
			if got := rel.Same(a, b); got != (want == 0) {
				t.Errorf("Same of %s: %v", texts([]api.Rel{a, b}), got)
			}
		}
	}
	rising := []api.Rel{least(-1), zero(-1), least(0), zero(0), zero(9, part(-1, 0)), least(0, part(1, 0)), zero(0, part(1, 0)), least(1, part(1, 0))}
	for i := 1; i < len(rising); i++ {
		if rel.Cmp(rising[i-1], rising[i]) != -1 || rel.Cmp(rising[i], rising[i-1]) != 1 {
			t.Errorf("Cmp of %s", texts(rising[i-1:i+1]))
		}
	}
}

func TestP4_1Text(t *testing.T) {
	names := []string{"x", "y"}
	for _, x := range []struct {
		r    api.Rel
		want string
	}{
		{least(2, part(3, 0), part(-1, 1)), "3*x - y + 2 >= 0"},
		{zero(2, part(-1, 1), part(3, 0)), "3*x - y + 2 = 0"},
		{zero(0), "0 = 0"}, {least(-4), "-4 >= 0"}, {api.Rel{}, "0 >= 0"},
		{least(0, part(1, 2)), "v2 >= 0"},
	} {
		if got := rel.Text(x.r, names); got != x.want {
			t.Errorf("Text: %q, want %q", got, x.want)
		}
	}
	if got := rel.Text(zero(0, part(1, 0)), []string{""}); got != " = 0" {
		t.Errorf("Text with an empty name: %q", got)
	}
}

func TestP4_2TightPreserves(t *testing.T) {
	for _, r := range samples() {
		tight, truth := rel.Tight(r)
		for _, vals := range points(9) {
			want := truth == 1 || truth == 0 && hold([]api.Rel{tight}, vals)
			if hold([]api.Rel{r}, vals) != want {
				t.Errorf("Tight of %s: %s, %d differs at %v", texts([]api.Rel{r}), texts([]api.Rel{tight}), truth, vals)
			}
		}
	}
}

func TestP4_2ExactlyOneOfDeny(t *testing.T) {
	for _, r := range samples() {
		denied := rel.Deny(r)
		for _, vals := range points(9) {
			n := 0
			for _, d := range denied {
				if hold([]api.Rel{d}, vals) {
					n++
				}
			}
			if holds := hold([]api.Rel{r}, vals); holds && n != 0 || !holds && n != 1 {
				t.Errorf("Deny of %s: %d hold at %v", texts([]api.Rel{r}), n, vals)
			}
		}
	}
}

func TestP4_2PutPreserves(t *testing.T) {
	for _, r := range samples() {
		for _, by := range edges() {
			put := rel.Put(r, 0, by)
			for _, vals := range points(2) {
				changed := []api.Int{term.Value(by, vals), vals[1]}
				if hold([]api.Rel{put}, vals) != hold([]api.Rel{r}, changed) {
					t.Errorf("Put in %s: differs at %v", texts([]api.Rel{r}), vals)
				}
			}
		}
	}
}

// TestP4_3 tells the tight relations of small numbers apart by where they hold.
func TestP4_3TightRelationsDiffer(t *testing.T) {
	all := points(9)
	known := map[string]api.Rel{}
	for _, eq := range []bool{false, true} {
		for a := int64(-2); a <= 2; a++ {
			for b := int64(-2); b <= 2; b++ {
				for k := int64(-3); k <= 3; k++ {
					tight, truth := rel.Tight(api.Rel{T: sumOf(k, part(a, 0), part(b, 1)), Eq: eq})
					if truth != 0 {
						continue
					}
					where := make([]byte, len(all)+1)
					for i, vals := range all {
						if hold([]api.Rel{tight}, vals) {
							where[i] = 1
						}
					}
					if eq {
						where[len(all)] = 1
					}
					if other, found := known[string(where)]; found && !rel.Same(tight, other) {
						t.Errorf("%s hold at the same values", texts([]api.Rel{tight, other}))
					}
					known[string(where)] = tight
				}
			}
		}
	}
	if len(known) < 100 {
		t.Errorf("only %d relations", len(known))
	}
}
