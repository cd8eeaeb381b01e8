package abstr_test

import (
	"fmt"
	"math"
	"math/rand"
	"slices"
	"testing"

	"plumbline/abstr"
	"plumbline/api"
	"plumbline/logic"
	"plumbline/rel"
	"plumbline/zint"
)

func TestP21_1Of(t *testing.T) {
	for _, x := range []struct{ preds, state, want string }{
		{"x >= 2", "0 / 2", "0 /+"}, {"x >= 2", "0 / 1", "0 /-"}, {"x >= 2; x = 3; x + y <= 4", "1 2 / 3 1", "1 2 /+++"}, {"x >= 2; x = 3; x + y <= 4", "1 2 / 2 3", "1 2 /+--"}, {"x = 3; x = 3; x >= 3", "0 / 4", "0 /--+"}, {"", "0 / 4", "0 /"}, {"", "/", "/"}, {"x >= 0; x >= 1", "/", "/+-"}, {"y >= 0; y >= 1", "0 / 7", "0 /+-"}, {"x >= 2", "-7 99 / 3 3 3", "-7 99 /+"}, {"2*x = 3; x < x; x = x", "0 / 1", "0 /--+"}, {"x = 123456789012345678901234567890", "0 / 123456789012345678901234567890", "0 /+"}, {"far = 0; far < 0", "0 / 1", "0 /+-"},
	} {
		expect(t, x.state+" for "+x.preds, told(abstr.Of(preds(x.preds), state(x.state))), x.want)
	}
	odd := []api.Rel{{T: api.Term{Parts: []api.Part{{V: 0, C: number("1")}, {V: -1, C: number("9")}, {V: 0, C: number("1")}}, K: number("-6")}, Eq: true}}
	expect(t, "2*x - 6 = 0, not plain", told(abstr.Of(odd, state("/ 3"))), "/+")
}

// TestP21_1Cmp: abstract states in their order, of which each differs from all others.
func TestP21_1Cmp(t *testing.T) {
	var all []abstr.Abs
	for _, text := range []string{
		"/", "/-", "/--", "/-+", "/+", "/+-", "/+--", "/++", "-9 /", "-1 /+", "0 /", "0 /-", "0 /--", "0 /---", "0 /-+", "0 /+", "0 0 /", "0 0 /-", "0 0 7 /", "0 1 /-", "0 1 /+", "0 1 /++", "1 /", "1 /-+", "1 /+", "1 0 /", "1 0 0 /+", "2 /-", "10 /",
	} {
		all = append(all, abstract(text))
	}
	all = append(all, abstr.Abs{Locs: []int{math.MaxInt}})
	all = slices.Insert(all, 8, abstr.Abs{Locs: []int{math.MinInt}})
	for i, a := range all {
		for j, b := range all {
			want := 0
			if i < j {
				want = -1
			} else if i > j {
				want = 1
			}
			if got := abstr.Cmp(a, b); got != want || abstr.Same(a, b) != (i == j) {
				t.Errorf("Cmp of %s and %s is %d, Same is %v", told(a), told(b), got, abstr.Same(a, b))
			}
		}
		b := abstr.Abs{Locs: append([]int{}, a.Locs...), Bits: append(make([]bool, 0, 9), a.Bits...)}
		if !abstr.Same(a, b) || abstr.Cmp(b, a) != 0 {
			t.Errorf("%s is not equal to a copy", told(a))
		}
	}
}

func TestP21_1Cube(t *testing.T) {
	for _, x := range []struct{ preds, bits, want string }{
		{"", "", "true"}, {"x >= 2", "+", "x >= 2"}, {"x >= 2", "-", "x < 2"}, {"x = 2", "-", "x != 2"}, {"x >= 2; y = 3", "+-", "x >= 2 & y != 3"}, {"x >= 2; y = 3", "-+", "x < 2 & y = 3"}, {"x >= 2; x >= 1", "+-", "false"}, {"x >= 2; x >= 2", "+-", "false"}, {"x < x; 0 = 0", "-+", "true"}, {"x < x", "+", "false"},
		// predicates without a bit, and bits without a predicate
		{"x >= 2; y = 3", "", "true"}, {"x >= 2; y = 3", "-", "x < 2"}, {"x >= 2", "+-", "x >= 2"}, {"", "+-", "true"}, {"x >= 2; y = 3", "++-", "x >= 2 & y = 3"},
	} {
		ps, list := preds(x.preds), bits(x.bits)
		cube, want := abstr.Cube(ps, list), cond(x.want)
		for a := int64(-1); a < 6; a++ {
			for b := int64(-1); b < 6; b++ {
				vals := []api.Int{zint.Of(a), zint.Of(b)}
				if logic.Holds(cube, vals) != logic.Holds(want, vals) {
					t.Errorf("Cube of %s and %s: %s, want %s", x.preds, x.bits, logic.Text(cube, names), x.want)
				}
			}
		}
	}
}

// TestP21_1CubeOfBits: each list of bits is that of the states where its Cube holds.
func TestP21_1CubeOfBits(t *testing.T) {
	r := rand.New(rand.NewSource(1))
	for range 500 {
		ps := randomPreds(r, 2, 4)
		for a := int64(-3); a < 4; a++ {
			vals := []api.Int{zint.Of(a), small(r, 3)}
			own := abstr.Of(ps, api.State{Vals: vals}).Bits
			for n := range 1 << len(ps) {
				var list []bool
				for i := range ps {
					list = append(list, n>>i&1 == 1)
				}
				if logic.Holds(abstr.Cube(ps, list), vals) != slices.Equal(list, own) {
					t.Fatalf("%v: %s at %v", ps, toldBits(list), vals)
				}
			}
		}
	}
}

func textOf(rs []api.Rel) string {
	text := ""
	for _, r := range rs {
		text += rel.Text(r, names) + "; "
	}
	return text
}

func TestP21_1Base(t *testing.T) {
	for _, x := range []struct{ props, want string }{
		{"", ""}, {"0@1; 2@0", ""}, {"x >= 2", "x - 2 >= 0; "}, {"0@1; x >= 2; 0@0; y = 3", "x - 2 >= 0; y - 3 = 0; "}, {"y = 3; x >= 2", "y - 3 = 0; x - 2 >= 0; "}, {"true; false", ""}, {"2*x >= 3", "x - 2 >= 0; "}, {"2*x = 3; x >= x", ""},
		// the relations of Flat: those of denied ones are others
		{"!(x >= 2)", "-x + 1 >= 0; "}, {"!(x = 2)", "x - 3 >= 0; -x + 1 >= 0; "}, {"x != 2", "x - 3 >= 0; -x + 1 >= 0; "}, {"-x = 2", "x + 2 = 0; "}, {"!(x < 3 & y = 0)", "x - 3 >= 0; y - 1 >= 0; -y - 1 >= 0; "}, {"(x >= 0 | y >= 0) & z = 1", "x >= 0; y >= 0; z - 1 = 0; "}, {"x >= 0 | true", ""}, {"x >= 0 & false", ""},
		// the same relation in several atoms, and twice in one
		{"x >= 2; x >= 2", "x - 2 >= 0; "}, {"x >= 2; x > 1; 2*x >= 3; x < 2", "x - 2 >= 0; -x + 1 >= 0; "}, {"x >= 2 & (x > 1 | y = 1) & y = 1", "x - 2 >= 0; y - 1 = 0; "}, {"x >= 2 & y = 1; y = 1 | z = 0 | x >= 2; z = 0", "x - 2 >= 0; y - 1 = 0; z = 0; "}, {"x >= 0; x = 0; -x >= 0; x <= 0", "x >= 0; x = 0; -x >= 0; "}, {"x = 1; !(x = 1); x = 1", "x - 1 = 0; x - 2 >= 0; -x >= 0; "},
	} {
		ps, e := abstr.Base(props(x.props))
		if expect(t, "Base of "+x.props, textOf(ps), x.want); e != api.OK {
			t.Errorf("Base of %s: error %d", x.props, e)
		}
	}
}

// TestP21_1BaseMany: as many predicates as there may be, and one more, in one atom and in
// several, with others twice.
func TestP21_1BaseMany(t *testing.T) {
	all := func(from, to int) []api.Prop {
		var ps []api.Prop
		for i := from; i < to; i++ {
			ps = append(ps, api.Prop{F: cond(fmt.Sprint("x >= ", i))})
		}
		return ps
	}
	together := func(ps []api.Prop) []api.Prop {
		f := api.Form{Kind: api.Or}
		for _, p := range ps {
			f.Kids = append(f.Kids, p.F)
		}
		return []api.Prop{{F: f}}
	}
	for _, x := range []struct {
		props []api.Prop
		want  int
	}{
		{all(0, 23), 23}, {all(0, 24), 24}, {all(0, 25), -1}, {all(0, 2000), -1}, {together(all(0, 24)), 24}, {together(all(0, 25)), -1}, {together(all(0, 20000)), -1}, {slices.Concat(all(0, 24), all(3, 20), together(all(2, 24))), 24}, {slices.Concat(all(0, 24), all(3, 20), all(24, 25)), -1}, {append(all(0, 24), props("0@1; 2@3")...), 24}, {append(props("0@1; 2@3"), all(0, 25)...), -1}, {append(all(0, 23), props("x != -1")...), 24}, {append(all(0, 23), props("x != 40")...), -1}, {append(all(0, 24), props("true; x < x; 2*x = 1; 2*x > 39")...), 24},
	} {
		ps, e := abstr.Base(x.props)
		if x.want < 0 && (e != api.ErrMany || len(ps) > 0) || x.want >= 0 && (e != api.OK || len(ps) != x.want) {
			t.Errorf("Base of %d atoms: %d, error %d, want %d", len(x.props), len(ps), e, x.want)
		}
	}
}

func TestP21_1Gather(t *testing.T) {
	for _, x := range []struct{ preds, f, want string }{
		{"", "true", ""}, {"", "false", ""}, {"", "x >= 2", "x - 2 >= 0; "}, {"x = 1", "true", "x - 1 = 0; "}, {"x = 1", "x >= 2", "x - 1 = 0; x - 2 >= 0; "}, {"x = 1; x >= 2", "x >= 2 & x = 1", "x - 1 = 0; x - 2 >= 0; "}, {"x = 1", "y = 1 | (x = 1 & z = 1) | y = 1 | (z = 1 & y >= 1)", "x - 1 = 0; y - 1 = 0; z - 1 = 0; y - 1 >= 0; "}, {"", "z = 1 & y = 1 & x = 1 & y = 1 & z = 1", "z - 1 = 0; y - 1 = 0; x - 1 = 0; "}, {"x >= 1", "x = 1", "x - 1 >= 0; x - 1 = 0; "},
		// predicates that are there twice stay
		{"x = 1; x = 1", "x = 1", "x - 1 = 0; x - 1 = 0; "}, {"x = 1; y = 1; x = 1", "z = 1 & y = 1 & z = 1", "x - 1 = 0; y - 1 = 0; x - 1 = 0; z - 1 = 0; "},
		// formulas that are not flat
		{"", "!(x >= 2)", "x - 2 >= 0; "}, {"", "!(x = 2 & !(y = 2 | x = 2))", "x - 2 = 0; y - 2 = 0; "}, {"2*x >= 4", "2*x >= 4 & x >= 2", "2*x - 4 >= 0; x - 2 >= 0; "}, {"", "x = x & 1 < 2 & x = 1", "0 = 0; 0 >= 0; x - 1 = 0; "}, {"", "-x = 1 | x = -1", "-x - 1 = 0; x + 1 = 0; "},
	} {
		expect(t, "Gather of "+x.preds+" and "+x.f, textOf(abstr.Gather(preds(x.preds), cond(x.f))), x.want)
	}
	twice := api.Term{Parts: []api.Part{{V: 1, C: number("1")}, {V: 0, C: number("1")}, {V: 0, C: number("1")}, {V: 2, C: api.Int{Neg: true}}}, K: api.Int{Neg: true, Abs: api.Nat{0}}}
	plain := "2*x + y = 0; "
	expect(t, "Gather of a predicate that is not plain", textOf(abstr.Gather([]api.Rel{{T: twice, Eq: true}}, cond("2*x + y = 0"))), plain)
	expect(t, "Gather of a formula that is not plain", textOf(abstr.Gather(preds("2*x + y = 0"), logic.Of(api.Rel{T: twice, Eq: true}))), plain)
	expect(t, "Gather of an odd formula", textOf(abstr.Gather(nil, api.Form{Kind: api.Or, Kids: []api.Form{{Kind: api.Atom, R: api.Rel{T: twice, Eq: true}}}})), plain)
}

// TestP21_1GatherKids: kids of formulas that have none do not count. Those of a Not all
// do, since the document says so for formulas that are not flat.
func TestP21_1GatherKids(t *testing.T) {
	kids := []api.Form{cond("x = 1"), cond("y = 1")}
	for _, x := range []struct {
		kind int
		want string
	}{
		{api.True, ""}, {api.False, ""}, {api.Atom, "z - 1 = 0; "}, {api.Not, "x - 1 = 0; y - 1 = 0; "}, {api.And, "x - 1 = 0; y - 1 = 0; "}, {api.Or, "x - 1 = 0; y - 1 = 0; "}, {-1, ""}, {6, ""}, {math.MaxInt, ""}, {math.MinInt, ""},
	} {
		f := api.Form{Kind: x.kind, R: cond("z = 1").R, Kids: kids}
		expect(t, fmt.Sprint("Gather of kind ", x.kind), textOf(abstr.Gather(nil, f)), x.want)
	}
}

// relsOf are the relations of a formula, from left to right.
func relsOf(f api.Form) []api.Rel {
	if f.Kind == api.Atom {
		return []api.Rel{f.R}
	}
	var all []api.Rel
	if f.Kind == api.Not || f.Kind == api.And || f.Kind == api.Or {
		for _, kid := range f.Kids {
			all = append(all, relsOf(kid)...)
		}
	}
	return all
}

func TestP21_1GatherByWords(t *testing.T) {
	r := rand.New(rand.NewSource(2))
	for range 3000 {
		ps, f := randomPreds(r, 2, 4), randomForm(r, 2, r.Intn(4))
		want := slices.Clone(ps)
		for _, p := range relsOf(f) {
			if !slices.ContainsFunc(want, func(q api.Rel) bool { return rel.Same(p, q) }) {
				want = append(want, p)
			}
		}
		expect(t, logic.Text(f, names), textOf(abstr.Gather(ps, f)), textOf(want))
	}
}

func TestP21_1GatherLarge(t *testing.T) {
	f := api.Form{Kind: api.And}
	const n = 1 << 16
	for i := range n {
		f.Kids = append(f.Kids, logic.Of(api.Rel{T: api.Term{K: zint.Of(int64(i % (n / 2)))}}))
	}
	got := abstr.Gather(nil, f)
	if len(got) != n/2 || rel.Text(got[n/2-1], nil) != fmt.Sprint(n/2-1, " >= 0") {
		t.Errorf("%d relations", len(got))
	}
	deep := cond("x = 1")
	for range n {
		deep = api.Form{Kind: api.Not, Kids: []api.Form{deep}}
	}
	expect(t, "Gather of many levels", textOf(abstr.Gather(preds("y = 1; x = 1"), deep)), "y - 1 = 0; x - 1 = 0; ")
}

func TestP21_1Letter(t *testing.T) {
	for _, x := range []struct{ props, preds, abs, want string }{
		{"", "", "/", ""}, {"", "x = 1", "0 /+", ""}, {"0@1; 0@0", "", "1 /", "+-"}, {"1@1; 1@0; 0@2", "", "2 0 /", "-++"}, {"-1@0; 2@0; 9223372036854775807@0; -9223372036854775808@0; 0@-1", "", "0 0 /", "-----"}, {"0@-1; 0@7", "", "-1 /", "+-"}, {"0@0", "", "/", "-"},
		{"x = 1; y = 1", "x = 1; y = 1", "0 /+-", "+-"}, {"x = 1; y = 1", "y = 1; x = 1", "0 /+-", "-+"}, {"y = 1 & x = 1; y = 1 | x = 1", "x = 1; y = 1", "/+-", "-+"}, {"y = 1 & x = 1; y = 1 | x = 1", "x = 1; y = 1", "/++", "++"}, {"y = 1 & x = 1; y = 1 | x = 1", "x = 1; y = 1", "/--", "--"}, {"true; false; x < x; 2*x = 3; !(x < x)", "", "/", "+---+"}, {"0@0; x = 1; 0@1", "x = 1", "0 /+", "++-"},
		{"x = 1 & (y = 1 | z = 1)", "x = 1; y = 1; z = 1", "/+-+", "+"}, {"x = 1 & (y = 1 | z = 1)", "x = 1; y = 1; z = 1", "/+--", "-"}, {"x = 1 & (y = 1 | z = 1)", "x = 1; y = 1; z = 1", "/-++", "-"},
		// Flat is evaluated: other relations stand for denied ones
		{"!(x >= 2)", "x <= 1", "/+", "+"}, {"!(x >= 2)", "x <= 1; x >= 2", "/-+", "-"}, {"!(x >= 2)", "x <= 1; x >= 2", "/++", "+"}, {"2*x >= 3", "x >= 2", "/+", "+"}, {"x != 1", "x >= 2; x <= 0", "/--", "-"}, {"x != 1", "x >= 2; x <= 0", "/-+", "+"},
		// relations that are no predicate, also where they do not matter
		{"x = 1", "", "/", "none"}, {"x = 1", "y = 1", "/+", "none"}, {"!(x >= 2)", "x >= 2", "/+", "none"}, {"x >= 2", "2*x >= 4", "/+", "none"}, {"x >= 2", "x = 2", "/+", "none"}, {"x = 1 & y = 1", "x = 1", "/-", "none"}, {"y = 1 & x = 1", "x = 1", "/-", "none"}, {"x = 1 | y = 1", "x = 1", "/+", "none"}, {"x = 1; y = 1", "x = 1", "/+", "none"}, {"y = 1; x = 1; 0@0", "x = 1", "0 /+", "none"}, {"x = 1 | true", "", "/", "+"}, {"x = 1 & (y = 1 | z = 1)", "x = 1; y = 1", "/-+", "none"},
		// predicates without a bit, and two that are the same
		{"x = 1", "x = 1", "/", "none"}, {"y = 1", "x = 1; y = 1", "/+", "none"}, {"x = 1", "x = 1; y = 1", "/+", "+"}, {"x = 1 | y = 1", "x = 1; y = 1", "/+", "none"}, {"x = 1", "x = 1", "/+--", "+"}, {"x = 1", "y = 1; x = 1; x = 1", "/-+-", "+"}, {"x = 1", "y = 1; x = 1; x = 1", "/+-+", "-"}, {"x = 1", "y = 1; x = 1; x = 1", "/+-", "-"}, {"x = 1", "y = 1; x = 1; x = 1", "/+", "none"},
	} {
		letter, ok := abstr.Letter(props(x.props), preds(x.preds), abstract(x.abs))
		got := toldBits(letter)
		if !ok {
			got += "none"
		}
		expect(t, fmt.Sprintf("%+v", x), got, x.want)
	}
	odd := []api.Rel{{T: api.Term{Parts: []api.Part{{V: 1, C: number("1")}, {V: 0, C: number("-1")}, {V: 0, C: number("2")}}}}}
	if letter, ok := abstr.Letter(props("x + y >= 0"), odd, abstract("/+")); !ok || toldBits(letter) != "+" {
		t.Error("a predicate that is not plain")
	}
}

// flatTruth evaluates a flat formula by what tells of each of its relations.
func flatTruth(f api.Form, tells func(r api.Rel) bool) bool {
	fails := func(kid api.Form) bool { return !flatTruth(kid, tells) }
	holds := func(kid api.Form) bool { return flatTruth(kid, tells) }
	switch f.Kind {
	case api.Atom:
		return tells(f.R)
	case api.And:
		return !slices.ContainsFunc(f.Kids, fails)
	case api.Or:
		return slices.ContainsFunc(f.Kids, holds)
	}
	return f.Kind == api.True
}

func TestP21_1LetterByWords(t *testing.T) {
	r := rand.New(rand.NewSource(3))
	known := 0
	for range 5000 {
		var atoms []api.Prop
		var ps []api.Rel
		for range r.Intn(4) {
			p := api.Prop{At: r.Intn(4) == 0, Proc: r.Intn(4) - 1, Loc: r.Intn(4) - 1, F: randomForm(r, 2, r.Intn(3))}
			atoms = append(atoms, p)
			ps = append(ps, relsOf(logic.Flat(p.F))...)
		}
		r.Shuffle(len(ps), func(i, j int) { ps[i], ps[j] = ps[j], ps[i] })
		if len(ps) > 0 && r.Intn(4) == 0 {
			ps = ps[1:]
		}
		a := abstr.Abs{Locs: []int{r.Intn(4) - 1, r.Intn(3)}, Bits: make([]bool, max(len(ps)+one(r, 0, 0, 0, 1, -1), 0))}
		for i := range a.Bits {
			a.Bits[i] = r.Intn(2) == 0
		}
		want, ok := "", true
		for _, p := range atoms {
			if p.At {
				want += toldBits([]bool{p.Proc >= 0 && p.Proc < 2 && a.Locs[p.Proc] == p.Loc})
				continue
			}
			f := logic.Flat(p.F)
			place := func(q api.Rel) int { return slices.IndexFunc(ps, func(p api.Rel) bool { return rel.Same(p, q) }) }
			for _, q := range relsOf(f) {
				ok = ok && place(q) >= 0 && place(q) < len(a.Bits)
			}
			if ok {
				want += toldBits([]bool{flatTruth(f, func(q api.Rel) bool { return a.Bits[place(q)] })})
				known++
			}
		}
		if !ok {
			want = ""
		}
		letter, is := abstr.Letter(atoms, ps, a)
		if toldBits(letter) != want || is != ok {
			t.Fatalf("%v for %v at %s: %s, %v, want %s, %v", atoms, ps, told(a), toldBits(letter), is, want, ok)
		}
	}
	if known < 3000 {
		t.Errorf("only %d atoms are known", known)
	}
}
