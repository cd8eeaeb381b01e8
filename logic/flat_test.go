package logic_test

import (
	"math"
	"testing"

	"plumbline/api"
	"plumbline/logic"
	"plumbline/rel"
	"plumbline/zint"
)

func TestP5_1Flat(t *testing.T) {
	a, b, c := least(0, 1), least(-1, 0, 1), zero(2, 1, 1)
	notA, notB := least(-1, -1), least(0, 0, -1)
	above, below := least(1, 1, 1), least(-3, -1, -1)
	for _, x := range []struct{ f, want api.Form }{
		{yes(), yes()}, {no(), no()}, {of(6, yes()), no()}, {of(-1), no()},
		{of(api.Not), no()}, {of(api.Not, of(api.Not)), yes()}, {of(api.Not, yes()), no()}, {of(api.Not, no()), yes()},
		{of(api.Not, of(77)), yes()}, {of(api.And), yes()}, {of(api.Or), no()}, {of(api.Not, of(api.And)), no()}, {of(api.Not, of(api.Or)), yes()},
		{least(-6, 4), least(-2, 1)}, {zero(-6, 4), no()}, {zero(-8, -4), zero(2, 1)}, {least(3), yes()}, {least(-3), no()},
		{zero(0), yes()}, {zero(3), no()}, {of(api.Not, least(3)), no()}, {of(api.Not, zero(3)), yes()}, {of(api.Not, zero(0)), no()},
		{of(api.Not, a), notA}, {of(api.Not, a, no()), notA}, {of(api.Not, of(api.Not, a)), a}, {of(api.Not, of(api.Not, c)), c},
		{of(api.Not, c), of(api.Or, above, below)},
		{of(api.Not, zero(4, -2)), of(api.Or, least(1, -1), least(-3, 1))},
		{of(api.Not, zero(-6, 4)), of(api.Or, least(-2, 1), least(1, -1))},
		{of(api.Not, of(api.And, a, b)), of(api.Or, notA, notB)}, {of(api.Not, of(api.Or, a, b)), of(api.And, notA, notB)},
		{of(api.And, a), a}, {of(api.Or, b), b}, {of(api.And, of(api.Or, of(api.And, a))), a},
		{of(api.And, a, yes(), b), of(api.And, a, b)}, {of(api.And, a, no(), b), no()}, {of(api.And, yes(), a), a}, {of(api.And, yes(), yes()), yes()},
		{of(api.Or, a, no(), b), of(api.Or, a, b)}, {of(api.Or, a, yes(), b), yes()}, {of(api.Or, no(), a), a}, {of(api.Or, no(), no()), no()},
		{of(api.And, b, of(api.And, a, c), a), of(api.And, b, a, c, a)}, {of(api.Or, b, of(api.Or, a, c), a), of(api.Or, b, a, c, a)},
		{of(api.And, b, of(api.Or, a, c), a), of(api.And, b, of(api.Or, a, c), a)},
		{of(api.Or, b, of(api.And, of(api.Or, a, c)), a), of(api.Or, b, a, c, a)},
		{of(api.Or, b, of(api.And, yes(), of(api.Or, a, c)), a), of(api.Or, b, a, c, a)},
		{of(api.Or, b, of(api.And, of(api.Or, no(), of(api.And, of(api.Or, a, c)), b)), a), of(api.Or, b, a, c, b, a)},
		{of(api.And, b, of(api.Or, a, of(api.Or, c, b))), of(api.And, b, of(api.Or, a, c, b))},
		{of(api.Or, b, of(api.And, a, of(api.And, of(api.Or, a, of(api.Or, c, b)), b))), of(api.Or, b, of(api.And, a, of(api.Or, a, c, b), b))},
		{of(api.Or, b, of(api.Not, of(api.And, of(api.Not, a), of(api.Not, b))), a), of(api.Or, b, a, b, a)},
		{of(api.Or, of(api.Not, c), a), of(api.Or, above, below, a)},
		{of(api.And, of(api.Not, c), a), of(api.And, of(api.Or, above, below), a)},
		{of(api.And, a, a), of(api.And, a, a)},
		{of(api.And, of(api.Or, a, b), of(api.Or, of(api.And), b)), of(api.Or, a, b)},
		{of(api.And, a, of(api.Or)), no()}, {of(api.Or, a, of(api.And)), yes()}, {of(api.Or, a, of(9, yes())), a},
	} {
		expect(t, "Flat of "+logic.Text(x.f, names), logic.Flat(x.f), x.want)
	}
	x, y := sum(0, 1), sum(0, 0, 1)
	example := logic.Deny(logic.All(logic.Compare(api.Lt, x, sum(3)), logic.Compare(api.Eq, y, sum(0))))
	expect(t, "Flat of the example", logic.Flat(example), of(api.Or, least(-3, 1), least(-1, 0, 1), least(-1, 0, -1)))
}

// inwards is f, or its negation, without Not, with tight relations.
func inwards(f api.Form, negated bool) api.Form {
	switch {
	case f.Kind == api.Not && len(f.Kids) > 0:
		return inwards(f.Kids[0], !negated)
	case f.Kind == api.And || f.Kind == api.Or:
		r := of(f.Kind)
		if negated {
			r.Kind = api.And + api.Or - f.Kind
		}
		for _, kid := range f.Kids {
			r.Kids = append(r.Kids, inwards(kid, negated))
		}
		return r
	case f.Kind == api.Atom && negated:
		r := of(api.Or)
		for _, d := range rel.Deny(f.R) {
			r.Kids = append(r.Kids, tight(d))
		}
		return r
	case f.Kind == api.Atom:
		return tight(f.R)
	}
	return logic.Truth((f.Kind == api.True) != negated)
}

// step applies each of the document's rules of And and Or once to f and its kids.
func step(f api.Form) api.Form {
	if f.Kind != api.And && f.Kind != api.Or {
		return f
	}
	neutral, decides := yes(), no()
	if f.Kind == api.Or {
		neutral, decides = no(), yes()
	}
	r := of(f.Kind)
	for _, kid := range f.Kids {
		switch kid = step(kid); kid.Kind {
		case neutral.Kind:
		case decides.Kind:
			return decides
		case f.Kind:
			r.Kids = append(r.Kids, kid.Kids...)
		default:
			r.Kids = append(r.Kids, kid)
		}
	}
	switch len(r.Kids) {
	case 0:
		return neutral
	case 1:
		return r.Kids[0]
	}
	return r
}

// flat applies the rules until there is nothing to apply them to.
func flat(f api.Form) api.Form {
	f = inwards(f, false)
	for {
		next := step(f)
		if shown(next) == shown(f) {
			return f
		}
		f = next
	}
}

func TestP5_1FlatByRules(t *testing.T) {
	for _, f := range samples() {
		expect(t, "Flat of "+logic.Text(f, names), logic.Flat(f), flat(f))
		expect(t, "Flat of Not", logic.Flat(of(api.Not, f)), flat(of(api.Not, f)))
	}
}

// isTight is the document's definition.
func isTight(r api.Rel) bool {
	if len(r.T.Parts) == 0 || shown(plain(r)) != shown(r) {
		return false
	}
	var content api.Int
	for _, p := range r.T.Parts {
		content = zint.Gcd(content, p.C)
	}
	if r.Eq {
		content = zint.Gcd(content, r.T.K)
	}
	return zint.Text(content) == "1" && (!r.Eq || zint.Sign(r.T.Parts[0].C) > 0)
}

// isFlat is the document's definition.
func isFlat(f api.Form) bool {
	switch {
	case f.Kind == api.True || f.Kind == api.False:
		return true
	case f.Kind == api.Atom:
		return isTight(f.R)
	case f.Kind != api.And && f.Kind != api.Or || len(f.Kids) < 2:
		return false
	}
	for _, kid := range f.Kids {
		if kid.Kind == api.True || kid.Kind == api.False || kid.Kind == f.Kind || !isFlat(kid) {
			return false
		}
	}
	return true
}

func TestP5_1FlatIsFlat(t *testing.T) {
	for _, f := range samples() {
		if got := logic.Flat(f); !isFlat(got) || shown(got) != shown(plainCopy(got)) {
			t.Errorf("Flat of %s is not flat: %v", logic.Text(f, names), got)
		}
	}
}

func TestP5_1FlatOfDeepAndWide(t *testing.T) {
	const n = 1 << 16
	for _, x := range []struct {
		f    api.Form
		size int
	}{
		{chain(n, api.Not), 1},
		{chain(n, api.And), n + 2},
		{chain(n, api.Or, api.Not), n/2 + 1 + n/4 + n/4},
		{chain(n, api.And, api.Or), n + 1 + n},
		{chain(n, api.And, api.And, api.Or), 0},
		{wide(n, api.And), n + 1},
		{of(api.Not, wide(n, api.Or)), n + 1},
	} {
		got := logic.Flat(x.f)
		if x.size > 0 && logic.Size(got) != x.size || logic.Holds(got, nil) != holds(x.f, nil) {
			t.Errorf("Flat of a formula of size %d has size %d, want %d", logic.Size(x.f), logic.Size(got), x.size)
		}
	}
	// Here each Or remains alone in its And, and has to be merged.
	f := of(api.Or, least(0, 1), least(1, 0, 1))
	for i := range n / 2 {
		f = of(api.Or, least(int64(i), 1), of(api.And, of(api.And), f))
	}
	if got := logic.Flat(f); got.Kind != api.Or || len(got.Kids) != n/2+2 {
		t.Errorf("Flat of nested single kids: %d", len(got.Kids))
	}
}

func TestP5_2FlatPreserves(t *testing.T) {
	for _, f := range samples() {
		expectSame(t, "Flat", f, logic.Flat(f))
		expectSame(t, "Flat", of(api.Not, f), logic.Flat(of(api.Not, f)))
	}
}

func TestP5_2PutAllPreserves(t *testing.T) {
	by := []api.Term{sum(1, 0, 2), sum(-2, 1, -1)}
	for _, f := range samples() {
		put := logic.PutAll(f, []int{0, 1, 0}, by)
		first := logic.PutAll(f, []int{0}, by)
		for _, vals := range points(4) {
			x, y := zint.Add(number(1), zint.Mul(number(2), vals[1])), zint.Sub(zint.Sub(vals[0], vals[1]), number(2))
			if holds(put, vals) != holds(f, []api.Int{x, y}) {
				t.Errorf("PutAll of %s differs at %v", logic.Text(f, names), vals)
			}
			if holds(first, vals) != holds(f, []api.Int{x, vals[1]}) {
				t.Errorf("PutAll of %s for x differs at %v", logic.Text(f, names), vals)
			}
		}
	}
}

func TestP5_3FlatOfFlat(t *testing.T) {
	for _, f := range samples() {
		once := logic.Flat(f)
		expect(t, "Flat of Flat", logic.Flat(once), once)
	}
	x := api.Int{Neg: true, Abs: api.Nat{math.MaxUint32, 7}}
	f := of(api.Or, of(api.And, least(-1, -1), of(api.Or, zero(0, 2, -3), least(5, 3, 2)), zero(4, 1)), least(0, 0, 1))
	f.Kids[0].Kids[0].R.T.K = x
	if !isFlat(f) {
		t.Fatal("the formula is not flat")
	}
	expect(t, "Flat of a flat formula", logic.Flat(f), f)
}

func TestP5_3DenyTwice(t *testing.T) {
	for _, f := range samples() {
		twice := logic.Deny(logic.Deny(f))
		expectSame(t, "Deny of Deny", f, twice)
		expectSame(t, "Flat of Deny of Deny", f, logic.Flat(twice))
		for _, vals := range points(3) {
			if logic.Holds(twice, vals) != logic.Holds(f, vals) || logic.Holds(logic.Deny(f), vals) == logic.Holds(f, vals) {
				t.Errorf("Deny of %s at %v", logic.Text(f, names), vals)
			}
		}
	}
}
