package word_test

import (
	"math"
	"math/rand"
	"slices"
	"testing"

	"plumbline/api"
	"plumbline/word"
)

func TestP15_1Plain(t *testing.T) {
	a, b := atom(0), atom(1)
	na, nb := not(a), not(b)
	for _, x := range []struct{ f, plain, denied api.Ltl }{
		{yes(), yes(), no()}, {no(), no(), yes()}, {a, a, na}, {atom(-5), atom(-5), not(atom(-5))}, {atom(math.MaxInt), atom(math.MaxInt), not(atom(math.MaxInt))},
		{na, na, a}, {not(na), a, na}, {not(not(na)), na, a}, {not(yes()), no(), yes()}, {not(no()), yes(), no()},
		{of(api.TAnd, a, b), of(api.TAnd, a, b), of(api.TOr, na, nb)}, {of(api.TOr, a, b), of(api.TOr, a, b), of(api.TAnd, na, nb)}, {of(api.TImp, a, b), of(api.TOr, na, b), of(api.TAnd, a, nb)}, {of(api.TNext, a), of(api.TNext, a), of(api.TNext, na)},
		{of(api.TAll, a), of(api.TFree, no(), a), of(api.TUntil, yes(), na)}, {of(api.TSome, a), of(api.TUntil, yes(), a), of(api.TFree, no(), na)}, {of(api.TUntil, a, b), of(api.TUntil, a, b), of(api.TFree, na, nb)}, {of(api.TFree, a, b), of(api.TFree, a, b), of(api.TUntil, na, nb)},
		{not(of(api.TImp, na, not(of(api.TNext, b)))), of(api.TAnd, na, of(api.TNext, b)), of(api.TOr, a, of(api.TNext, nb))}, {of(api.TAll, of(api.TSome, na)), of(api.TFree, no(), of(api.TUntil, yes(), na)), of(api.TUntil, yes(), of(api.TFree, no(), a))},
		// nothing is made simpler
		{of(api.TAnd, yes(), yes()), of(api.TAnd, yes(), yes()), of(api.TOr, no(), no())}, {of(api.TOr, a, a), of(api.TOr, a, a), of(api.TAnd, na, na)}, {of(api.TUntil, yes(), no()), of(api.TUntil, yes(), no()), of(api.TFree, no(), yes())}, {of(api.TNext, yes()), of(api.TNext, yes()), of(api.TNext, no())},
		// missing, additional and unknown kids, and fields that the kinds do not use
		{of(api.TNot), yes(), no()}, {of(api.TAnd), of(api.TAnd, no(), no()), of(api.TOr, yes(), yes())}, {of(api.TOr, a), of(api.TOr, a, no()), of(api.TAnd, na, yes())}, {of(api.TImp), of(api.TOr, yes(), no()), of(api.TAnd, no(), yes())}, {of(api.TImp, a), of(api.TOr, na, no()), of(api.TAnd, a, yes())}, {of(api.TNext), of(api.TNext, no()), of(api.TNext, yes())}, {of(api.TAll), of(api.TFree, no(), no()), of(api.TUntil, yes(), yes())}, {of(api.TSome), of(api.TUntil, yes(), no()), of(api.TFree, no(), yes())}, {of(api.TUntil, a), of(api.TUntil, a, no()), of(api.TFree, na, yes())}, {of(api.TFree), of(api.TFree, no(), no()), of(api.TUntil, yes(), yes())},
		{of(api.TNot, a, b), na, a}, {of(api.TAnd, a, b, a), of(api.TAnd, a, b), of(api.TOr, na, nb)}, {of(api.TNext, a, b), of(api.TNext, a), of(api.TNext, na)}, {of(api.TAll, a, b), of(api.TFree, no(), a), of(api.TUntil, yes(), na)}, {of(api.TTrue, a), yes(), no()}, {of(api.TFalse, a), no(), yes()}, {of(api.TCmp, b, b), a, na}, {not(of(api.TCmp, b)), na, a},
		{of(api.TAt), no(), yes()}, {api.Ltl{Kind: api.TAt, Prop: 7, Kids: []api.Ltl{a}}, no(), yes()}, {of(13, a, b), no(), yes()}, {of(-1), no(), yes()}, {not(of(99)), yes(), no()}, {of(api.TUntil, of(math.MinInt), a), of(api.TUntil, no(), a), of(api.TFree, yes(), na)},
		{api.Ltl{Kind: api.TAnd, Prop: 3, Kids: []api.Ltl{a, b}}, of(api.TAnd, a, b), of(api.TOr, na, nb)}, {api.Ltl{Kind: api.TTrue, Prop: 3}, yes(), no()}, {api.Ltl{Kind: api.TFalse, Prop: -3}, no(), yes()}, {api.Ltl{Kind: api.TNext, Prop: 3, Kids: []api.Ltl{a}}, of(api.TNext, a), of(api.TNext, na)}, {api.Ltl{Kind: api.TNot, Prop: 3, Kids: []api.Ltl{a}}, na, a}, {api.Ltl{Kind: api.TAll, Prop: 3, Kids: []api.Ltl{a}}, of(api.TFree, no(), a), of(api.TUntil, yes(), na)},
	} {
		expect(t, told(x.f), told(word.Plain(x.f, false)), told(x.plain))
		expect(t, told(x.f)+" denied", told(word.Plain(x.f, true)), told(x.denied))
	}
}

// plain is what the document's words say of Plain.
func plain(f api.Ltl, deny bool) api.Ltl {
	kid := func(i int, deny bool) api.Ltl {
		if i >= len(f.Kids) {
			return plain(no(), deny)
		}
		return plain(f.Kids[i], deny)
	}
	either := func(yes, no int) int {
		if deny {
			return no
		}
		return yes
	}
	switch f.Kind {
	case api.TTrue:
		return of(either(api.TTrue, api.TFalse))
	case api.TCmp:
		if deny {
			return not(atom(f.Prop))
		}
		return atom(f.Prop)
	case api.TNot:
		return kid(0, !deny)
	case api.TAnd:
		return of(either(api.TAnd, api.TOr), kid(0, deny), kid(1, deny))
	case api.TOr:
		return of(either(api.TOr, api.TAnd), kid(0, deny), kid(1, deny))
	case api.TImp:
		return of(either(api.TOr, api.TAnd), kid(0, !deny), kid(1, deny))
	case api.TNext:
		return of(api.TNext, kid(0, deny))
	case api.TAll:
		return of(either(api.TFree, api.TUntil), of(either(api.TFalse, api.TTrue)), kid(0, deny))
	case api.TSome:
		return of(either(api.TUntil, api.TFree), of(either(api.TTrue, api.TFalse)), kid(0, deny))
	case api.TUntil:
		return of(either(api.TUntil, api.TFree), kid(0, deny), kid(1, deny))
	case api.TFree:
		return of(either(api.TFree, api.TUntil), kid(0, deny), kid(1, deny))
	}
	return of(either(api.TFalse, api.TTrue))
}

// isPlain reports whether a property has only the kinds of Plain, each with its kids
// and nothing else.
func isPlain(f api.Ltl) bool {
	wrong := func(kid api.Ltl) bool { return !isPlain(kid) }
	if f.Kind != api.TCmp && f.Prop != 0 || len(f.Kids) != kidsOf[f.Kind] {
		return false
	}
	switch f.Kind {
	case api.TNot:
		return f.Kids[0].Kind == api.TCmp && isPlain(f.Kids[0])
	case api.TTrue, api.TFalse, api.TCmp, api.TAnd, api.TOr, api.TNext, api.TUntil, api.TFree:
		return !slices.ContainsFunc(f.Kids, wrong)
	}
	return false
}

// TestP15_2PlainPreserves: where a property holds, or negates it.
func TestP15_2PlainPreserves(t *testing.T) {
	r := rand.New(rand.NewSource(52))
	for _, f := range slices.Concat(properties(4000, false), properties(4000, true), pairs()) {
		yes, no := word.Plain(f, false), word.Plain(f, true)
		if !isPlain(yes) || !isPlain(no) {
			t.Errorf("%s is not plain: %s, %s", told(f), told(yes), told(no))
		}
		expect(t, told(f), told(yes), told(plain(f, false)))
		expect(t, told(f), told(no), told(plain(f, true)))
		expect(t, told(f)+" again", told(word.Plain(yes, false)), told(yes))
		expect(t, told(f)+" again", told(word.Plain(no, false)), told(no))
		expect(t, told(f)+" denied twice", told(word.Plain(no, true)), told(yes))
		for range 3 {
			w, at := randomWord(r), r.Intn(6)
			want := holds(f, w, at)
			if word.Holds(yes, w, at) != want || word.Holds(no, w, at) == want {
				t.Errorf("%s at %d of %s", told(f), at, toldWord(w))
			}
		}
	}
}

func TestP15_1Size(t *testing.T) {
	a, b := atom(0), atom(1)
	for _, x := range []struct {
		f    api.Ltl
		want int
	}{
		{yes(), 1}, {no(), 1}, {a, 1}, {not(a), 2}, {of(api.TNext, a), 2}, {of(api.TAll, a), 2}, {of(api.TSome, a), 2}, {of(api.TAnd, a, b), 3}, {of(api.TOr, a, a), 3}, {of(api.TImp, a, b), 3}, {of(api.TUntil, a, b), 3}, {of(api.TFree, a, b), 3}, {of(api.TAll, of(api.TImp, a, of(api.TSome, not(b)))), 6},
		{not(of(api.TAnd)), 4}, {of(api.TNot), 2}, {of(api.TNext), 2}, {of(api.TAll), 2}, {of(api.TSome), 2}, {of(api.TAnd), 3}, {of(api.TOr, a), 3}, {of(api.TImp), 3}, {of(api.TUntil, not(a)), 4}, {of(api.TFree), 3},
		{of(api.TNot, a, b), 2}, {of(api.TAnd, a, b, a), 3}, {of(api.TAll, a, b), 2}, {of(api.TTrue, a), 1}, {of(api.TFalse, a, b), 1}, {of(api.TCmp, a), 1}, {of(api.TAt, a), 1}, {of(13, a, b), 1}, {of(-1, a), 1}, {of(api.TAnd, of(99, a, b), of(api.TCmp, b)), 3},
	} {
		if got := word.Size(x.f); got != x.want {
			t.Errorf("Size(%s) = %d", told(x.f), got)
		}
	}
}

// essence is a property as far as it counts.
func essence(f api.Ltl) string {
	if f.Kind == api.TCmp {
		return told(atom(f.Prop))
	}
	if kidsOf[f.Kind] == 0 && f.Kind != api.TTrue {
		return told(no())
	}
	text := told(of(f.Kind))
	for i := range kidsOf[f.Kind] {
		if i < len(f.Kids) {
			text += "(" + essence(f.Kids[i]) + ")"
		} else {
			text += "(" + essence(no()) + ")"
		}
	}
	return text
}

func TestP15_1Same(t *testing.T) {
	a, b := atom(0), atom(1)
	for _, x := range []struct {
		f, g api.Ltl
		want bool
	}{
		{yes(), yes(), true}, {yes(), no(), false}, {a, a, true}, {a, b, false}, {atom(-1), atom(-1), true}, {atom(-1), atom(-2), false}, {a, yes(), false}, {a, no(), false}, {not(a), not(a), true}, {not(a), not(b), false}, {not(a), a, false}, {of(api.TAll, a), of(api.TSome, a), false},
		{of(api.TAnd, a, b), of(api.TAnd, a, b), true}, {of(api.TAnd, a, b), of(api.TAnd, b, a), false}, {of(api.TAnd, a, b), of(api.TAnd, a, a), false}, {of(api.TAnd, a, b), of(api.TOr, a, b), false}, {of(api.TUntil, a, b), of(api.TFree, a, b), false}, {of(api.TImp, a, b), of(api.TOr, not(a), b), false}, {of(api.TSome, a), of(api.TUntil, yes(), a), false},
		// what does not count
		{of(api.TAnd, a, b, a), of(api.TAnd, a, b, b), true}, {of(api.TAnd, a, b, a), of(api.TAnd, a, b), true}, {of(api.TNot, a), of(api.TNot, a, b), true}, {of(api.TCmp, a), of(api.TCmp, b), true}, {of(api.TTrue, a), of(api.TTrue), true}, {of(api.TFalse), of(api.TFalse, b), true}, {api.Ltl{Kind: api.TAnd, Prop: 1, Kids: []api.Ltl{a, b}}, of(api.TAnd, a, b), true}, {api.Ltl{Kind: api.TTrue, Prop: 1}, yes(), true}, {api.Ltl{Kind: api.TFalse, Prop: 1}, no(), true},
		// missing and unknown ones count as TFalse
		{of(api.TNot), of(api.TNot, no()), true}, {of(api.TAnd), of(api.TAnd, no(), no()), true}, {of(api.TOr, a), of(api.TOr, a, no()), true}, {of(api.TOr, a), of(api.TOr, a, a), false}, {of(api.TUntil), of(api.TUntil, no()), true}, {of(api.TUntil, a), of(api.TUntil), false}, {of(13), of(14), true}, {of(api.TAt, a), no(), true}, {api.Ltl{Kind: -1, Prop: 4}, of(api.TFalse), true}, {of(13), yes(), false}, {of(api.TNext, of(99)), of(api.TNext), true}, {of(99), a, false},
	} {
		if word.Same(x.f, x.g) != x.want || word.Same(x.g, x.f) != x.want {
			t.Errorf("Same(%s, %s) is not %v", told(x.f), told(x.g), x.want)
		}
	}
}

func TestP15_1SameByRules(t *testing.T) {
	r := rand.New(rand.NewSource(5))
	counts := map[bool]int{}
	all := slices.Concat(properties(3000, true), properties(1000, false), pairs())
	for _, f := range all {
		g := one(r, f, f, of(api.TNot, f), word.Plain(f, false), one(r, all...))
		if r.Intn(2) == 0 && len(f.Kids) > 1 {
			g = api.Ltl{Kind: f.Kind, Prop: f.Prop, Kids: append(slices.Clone(f.Kids), f)}
			g.Kids[r.Intn(len(g.Kids))] = one(r, all...)
		}
		want := essence(f) == essence(g)
		if word.Same(f, g) != want {
			t.Errorf("Same(%s, %s) is not %v", told(f), told(g), want)
		}
		counts[want]++
	}
	if counts[true] < 1000 || counts[false] < 1000 {
		t.Errorf("%v", counts)
	}
}
