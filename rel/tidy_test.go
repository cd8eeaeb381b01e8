package rel_test

import (
	"math/rand"
	"slices"
	"testing"

	"plumbline/api"
	"plumbline/rel"
	"plumbline/term"
	"plumbline/zint"
)

func TestP4_1Tidy(t *testing.T) {
	x, y := part(1, 0), part(1, 1)
	lessX, lessY := part(-1, 0), part(-1, 1)
	for _, c := range []struct {
		rs, want []api.Rel
		ok       bool
	}{
		{nil, nil, true}, {[]api.Rel{}, nil, true},
		{[]api.Rel{least(0), zero(0), least(5), {}}, nil, true},
		{[]api.Rel{least(0, x), least(-1)}, nil, false},
		{[]api.Rel{least(0, x), zero(1)}, nil, false},
		{[]api.Rel{zero(-6, part(4, 0)), least(0, y)}, nil, false},
		{[]api.Rel{least(-6, part(4, 0))}, []api.Rel{least(-2, x)}, true},
		// the same parts
		{[]api.Rel{least(3, x), least(-1, x), least(2, x)}, []api.Rel{least(-1, x)}, true},
		{[]api.Rel{least(-1, x), least(-1, x)}, []api.Rel{least(-1, x)}, true},
		{[]api.Rel{least(-6, part(4, 0)), least(-1, x)}, []api.Rel{least(-2, x)}, true},
		{[]api.Rel{least(5, lessX), least(3, lessX)}, []api.Rel{least(3, lessX)}, true},
		// the negated parts
		{[]api.Rel{least(0, x), least(0, lessX)}, []api.Rel{zero(0, x)}, true},
		{[]api.Rel{least(4, lessX), least(-4, x)}, []api.Rel{zero(-4, x)}, true},
		{[]api.Rel{least(-4, x), least(3, lessX)}, nil, false},
		{[]api.Rel{least(-4, x), least(5, lessX)}, []api.Rel{least(5, lessX), least(-4, x)}, true},
		{[]api.Rel{least(9, lessX), least(5, lessX), least(-4, x), least(-5, x)}, []api.Rel{zero(-5, x)}, true},
		{[]api.Rel{least(2, lessX, part(2, 1)), least(-2, x, part(-2, 1))}, []api.Rel{zero(-2, x, part(-2, 1))}, true},
		{[]api.Rel{least(-5, part(2, 0)), least(5, part(-2, 0))}, nil, false},
		{[]api.Rel{least(3, part(2, 0), part(-4, 1)), least(-2, part(-2, 0), part(4, 1))}, []api.Rel{zero(1, x, part(-2, 1))}, true},
		// the same parts, with Eq
		{[]api.Rel{zero(3, x), zero(3, x)}, []api.Rel{zero(3, x)}, true},
		{[]api.Rel{zero(3, x), zero(-3, lessX), zero(6, part(2, 0))}, []api.Rel{zero(3, x)}, true},
		{[]api.Rel{zero(3, x), zero(4, x)}, nil, false},
		{[]api.Rel{zero(3, x), zero(3, lessX)}, nil, false},
		{[]api.Rel{zero(3, x), least(4, x), least(-4, lessX)}, nil, false},
		{[]api.Rel{least(4, x), zero(4, x), least(-4, lessX)}, []api.Rel{zero(4, x)}, true},
		// with and without Eq
		{[]api.Rel{zero(-3, x), least(-3, x)}, []api.Rel{zero(-3, x)}, true},
		{[]api.Rel{zero(-3, x), least(-2, x), least(3, lessX), least(9, lessX)}, []api.Rel{zero(-3, x)}, true},
		{[]api.Rel{zero(-3, x), least(-4, x)}, nil, false},
		{[]api.Rel{least(2, lessX), zero(-3, x)}, nil, false},
		{[]api.Rel{zero(-3, x, y), least(-3, x, lessY)}, []api.Rel{least(-3, x, lessY), zero(-3, x, y)}, true},
		// the order
		{[]api.Rel{least(7, y), zero(1, x, y), least(2, lessX), least(9, x), least(3, lessY)},
			[]api.Rel{least(2, lessX), least(9, x), zero(1, x, y), least(3, lessY), least(7, y)}, true},
		{[]api.Rel{zero(0, x), zero(5, y)}, []api.Rel{zero(0, x), zero(5, y)}, true},
		{[]api.Rel{zero(5, y), least(3, part(1, 2)), zero(0, x)}, []api.Rel{zero(0, x), zero(5, y), least(3, part(1, 2))}, true},
		// terms that are not plain
		{[]api.Rel{least(1, y, x, part(0, 3)), least(0, x, y, part(2, -1))}, []api.Rel{least(0, x, y)}, true},
	} {
		got, ok := rel.Tidy(c.rs)
		expectAll(t, "Tidy of "+texts(c.rs), got, c.want)
		if ok != c.ok || !ok && got != nil {
			t.Errorf("Tidy of %s: %v", texts(c.rs), ok)
		}
	}
}

// lists are random lists of relations, most of them with few different parts.
func lists() [][]api.Rel {
	r := rand.New(rand.NewSource(3))
	var all [][]api.Rel
	for i := range 4000 {
		var rs []api.Rel
		for range r.Intn(6) {
			most := int64(1 + i%3)
			a, b := r.Int63n(2*most+1)-most, r.Int63n(3)-1
			k := r.Int63n(7) - 3
			rs = append(rs, api.Rel{T: sumOf(k, part(b, 1), part(a, 0)), Eq: r.Intn(4) == 0})
		}
		all = append(all, rs)
	}
	return all
}

func sameParts(a, b api.Rel) bool {
	return term.Same(api.Term{Parts: a.T.Parts}, api.Term{Parts: b.T.Parts})
}

func negated(a api.Rel) api.Rel { return api.Rel{T: term.Neg(a.T)} }

// byRules is Tidy as the document words it, rule by rule.
func byRules(rs []api.Rel) ([]api.Rel, bool) {
	var eqs, leasts []api.Rel
	for _, r := range rs {
		tight, truth := rel.Tight(r)
		switch {
		case truth == -1:
			return nil, false
		case truth == 0 && r.Eq:
			eqs = append(eqs, tight)
		case truth == 0 && !slices.ContainsFunc(leasts, func(o api.Rel) bool { return sameParts(o, tight) && zint.Cmp(o.T.K, tight.T.K) <= 0 }):
			leasts = slices.DeleteFunc(leasts, func(o api.Rel) bool { return sameParts(o, tight) })
			leasts = append(leasts, tight)
		}
	}
	for _, a := range leasts {
		for _, b := range leasts {
			if !sameParts(a, negated(b)) {
				continue
			}
			switch zint.Sign(zint.Add(a.T.K, b.T.K)) {
			case -1:
				return nil, false
			case 0:
				tight, _ := rel.Tight(rel.Zero(a.T))
				eqs = append(eqs, tight)
			}
		}
	}
	for _, a := range eqs {
		for _, b := range eqs {
			if sameParts(a, b) && zint.Cmp(a.T.K, b.T.K) != 0 {
				return nil, false
			}
		}
		for _, b := range leasts {
			same, opposite := sameParts(a, b), sameParts(a, negated(b))
			if same && zint.Cmp(b.T.K, a.T.K) < 0 || opposite && zint.Sign(zint.Add(a.T.K, b.T.K)) < 0 {
				return nil, false
			}
		}
		leasts = slices.DeleteFunc(leasts, func(b api.Rel) bool { return sameParts(a, b) || sameParts(a, negated(b)) })
	}
	all := append(eqs, leasts...)
	slices.SortFunc(all, rel.Cmp)
	return slices.CompactFunc(all, rel.Same), true
}

func TestP4_1TidyByRules(t *testing.T) {
	refused := 0
	for _, rs := range lists() {
		want, wantOK := byRules(rs)
		got, ok := rel.Tidy(rs)
		expectAll(t, "Tidy of "+texts(rs), got, want)
		if ok != wantOK {
			t.Errorf("Tidy of %s: %v", texts(rs), ok)
		}
		if !ok {
			refused++
			continue
		}
		again, ok := rel.Tidy(got)
		expectAll(t, "Tidy of Tidy", again, got)
		if !ok {
			t.Errorf("Tidy of Tidy of %s: false", texts(rs))
		}
	}
	if refused < 500 || refused > 3500 {
		t.Errorf("%d of the lists are refused", refused)
	}
}

func TestP4_2TidyPreserves(t *testing.T) {
	all := points(5)
	for _, rs := range lists() {
		tidy, ok := rel.Tidy(rs)
		for _, vals := range all {
			if hold(rs, vals) != (ok && hold(tidy, vals)) {
				t.Errorf("Tidy of %s: %s, %v differs at %v", texts(rs), texts(tidy), ok, vals)
			}
		}
	}
}

// TestP4_1TidyOfAnyOrder: the order of relations does not matter.
func TestP4_1TidyOfAnyOrder(t *testing.T) {
	r := rand.New(rand.NewSource(4))
	for _, rs := range lists() {
		want, wantOK := rel.Tidy(rs)
		r.Shuffle(len(rs), func(i, j int) { rs[i], rs[j] = rs[j], rs[i] })
		got, ok := rel.Tidy(append(rs, rs...))
		expectAll(t, "Tidy of "+texts(rs), got, want)
		if ok != wantOK {
			t.Errorf("Tidy of %s in another order: %v", texts(rs), ok)
		}
	}
}

func TestP4_1TidyOfLongNumbers(t *testing.T) {
	long := api.Int{Abs: api.Nat{0, 0, 6, 0}}
	third := api.Int{Abs: api.Nat{0, 0, 2}}
	low := api.Rel{T: api.Term{Parts: []api.Part{part(3, 0)}, K: zint.Neg(long)}}
	high := api.Rel{T: api.Term{Parts: []api.Part{part(-3, 0)}, K: long}}
	want := api.Rel{T: api.Term{Parts: []api.Part{part(1, 0)}, K: zint.Neg(third)}, Eq: true}
	got, ok := rel.Tidy([]api.Rel{high, low})
	expectAll(t, "Tidy", got, []api.Rel{want})
	above := api.Rel{T: term.Sub(low.T, sumOf(3))}
	if none, excluded := rel.Tidy([]api.Rel{high, above}); !ok || excluded || none != nil {
		t.Errorf("Tidy: %v, %v", none, excluded)
	}
}
