package decide_test

import (
	"fmt"
	"math"
	"testing"

	"plumbline/api"
	"plumbline/decide"
	"plumbline/omega"
)

// TestP9_2MoreFuel: with little fuel nothing is known; from some fuel on, the answer
// is known, and stays as it is.
func TestP9_2MoreFuel(t *testing.T) {
	for i, f := range samples(400) {
		g := samples(40)[i%40]
		var sat, valid, follows, equal string
		for _, fuel := range []int{0, 1, 2, 3, 4, 5, 6, 7, 8, 9, 10, 12, 15, 20, 30, 50, 100, 1000, 20000, api.MaxFuel, math.MaxInt} {
			a := decide.Sat(f, i%3, fuel)
			stays(t, text(f), &sat, shown(a, min(fuel, api.MaxFuel)), noFuel)
			if a.State == omega.Fuel && a.Left != 0 {
				t.Errorf("%s with %d: %d left", text(f), fuel, a.Left)
			}
			stays(t, text(f), &valid, said(decide.Valid(f, fuel)), "not known")
			stays(t, text(f)+" and "+text(g), &follows, said(decide.Follows(f, g, fuel)), "not known")
			stays(t, text(f)+" and "+text(g), &equal, said(decide.Equal(f, g, fuel)), "not known")
		}
		if sat == "" || valid == "" || follows == "" || equal == "" {
			t.Errorf("%s is not known", text(f))
		}
	}
}

// stays expects that an answer is unknown until it is known, and then stays as it is.
func stays(t *testing.T, what string, before *string, answer, unknown string) {
	t.Helper()
	if *before == "" && answer != unknown {
		*before = answer
	}
	if *before != "" {
		expectText(t, what, answer, *before)
	}
}

// A keeper makes copies of which all slices have spare capacity, and keeps what they
// are made of, so that it can be overwritten.
type keeper struct {
	kids  [][]api.Form
	parts [][]api.Part
	nats  []api.Nat
}

func (k *keeper) number(a api.Int) api.Int {
	a.Abs = append(make(api.Nat, 0, len(a.Abs)+3), a.Abs...)
	k.nats = append(k.nats, a.Abs[:cap(a.Abs)])
	return a
}

func (k *keeper) rel(r api.Rel) api.Rel {
	parts := make([]api.Part, 0, len(r.T.Parts)+3)
	for _, p := range r.T.Parts {
		parts = append(parts, api.Part{V: p.V, C: k.number(p.C)})
	}
	k.parts = append(k.parts, parts[:cap(parts)])
	return api.Rel{T: api.Term{Parts: parts, K: k.number(r.T.K)}, Eq: r.Eq}
}

func (k *keeper) form(f api.Form) api.Form {
	kids := make([]api.Form, 0, len(f.Kids)+3)
	for _, kid := range f.Kids {
		kids = append(kids, k.form(kid))
	}
	k.kids = append(k.kids, kids[:cap(kids)])
	return api.Form{Kind: f.Kind, R: k.rel(f.R), Kids: kids}
}

func (k *keeper) String() string { return fmt.Sprint(k.kids, k.parts, k.nats) }

func (k *keeper) overwrite() {
	for _, kids := range k.kids {
		for i := range kids {
			kids[i].Kind = api.True
		}
	}
	for _, parts := range k.parts {
		for i := range parts {
			parts[i].V = 77
		}
	}
	for _, nat := range k.nats {
		for i := range nat {
			nat[i] = 99
		}
	}
}

// kept expects that a call does not modify what k has made, and that its result, as
// show tells it, stays the same when all of that is overwritten.
func kept(t *testing.T, what string, k *keeper, call func(), show func() string) {
	t.Helper()
	before := k.String()
	call()
	if after := k.String(); after != before {
		t.Fatalf("%s: arguments %s become %s", what, before, after)
	}
	want := show()
	k.overwrite()
	expectText(t, what+" of overwritten arguments", show(), want)
}

func TestP9_4Memory(t *testing.T) {
	for i, f := range samples(200) {
		g := samples(50)[i%50]
		k := &keeper{}
		mine, other := k.form(f), k.form(g)
		var a omega.Answer
		kept(t, "Sat", k, func() { a = decide.Sat(mine, i%6, 1000) }, func() string { return shown(a, 1000) })
		distinct(t, "Sat", natsOf(a.Vals))
		expectText(t, text(f), shown(decide.Sat(f, i%6, 1000), 1000), shown(followed(f, i%6, 1000), 1000))

		k = &keeper{}
		mine, other = k.form(f), k.form(g)
		kept(t, "Valid, Follows and Equal", k, func() {
			decide.Valid(mine, 1000)
			decide.Follows(mine, other, 1000)
			decide.Equal(mine, other, 1000)
		}, func() string { return "" })

		k = &keeper{}
		mine = k.form(f)
		var short api.Form
		kept(t, "Short", k, func() { short, _ = decide.Short(mine, 1000) }, func() string { return text(short) })
		distinct(t, "Short", formNats(short))
	}
	for _, rs := range lists(200) {
		k := &keeper{}
		mine := make([]api.Rel, 0, len(rs)+3)
		for _, r := range rs {
			mine = append(mine, k.rel(r))
		}
		before := fmt.Sprint(mine[:cap(mine)])
		var trim []api.Rel
		kept(t, "Trim", k, func() {
			trim = decide.Trim(mine, 1000)
			if after := fmt.Sprint(mine[:cap(mine)]); after != before {
				t.Fatalf("arguments %s become %s", before, after)
			}
			clear(mine[:cap(mine)])
		}, func() string { return texts(trim) })
		distinct(t, "Trim", relNats(trim))
	}
}

func natsOf(vals []api.Int) []api.Nat {
	var all []api.Nat
	for _, val := range vals {
		all = append(all, val.Abs)
	}
	return all
}

func relNats(rs []api.Rel) []api.Nat {
	var all []api.Nat
	for _, r := range rs {
		all = append(all, r.T.K.Abs)
		for _, p := range r.T.Parts {
			all = append(all, p.C.Abs)
		}
	}
	return all
}

func formNats(f api.Form) []api.Nat {
	all := relNats([]api.Rel{f.R})
	for _, kid := range f.Kids {
		all = append(all, formNats(kid)...)
	}
	return all
}

// distinct overwrites numbers, and expects that no two of them share memory.
func distinct(t *testing.T, what string, nats []api.Nat) {
	t.Helper()
	for i, nat := range nats {
		for limb := range nat[:cap(nat)] {
			nat[:cap(nat)][limb] = uint32(i + 1)
		}
	}
	for i, nat := range nats {
		for _, limb := range nat[:cap(nat)] {
			if limb != uint32(i+1) {
				t.Fatalf("%s: two numbers share memory", what)
			}
		}
	}
}
