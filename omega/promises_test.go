package omega_test

import (
	"fmt"
	"math/rand"
	"slices"
	"testing"

	"plumbline/api"
	"plumbline/omega"
)

// TestP8_2MoreFuel: less than what is consumed is not sufficient. What is consumed is,
// unless there are more pieces than fuel; 4096 more always are, and change nothing.
func TestP8_2MoreFuel(t *testing.T) {
	exactly := 0
	for _, rs := range samples(150) {
		a, ways := followed(rs, 0, enough)
		if a.State == omega.Fuel {
			continue
		}
		consumed, want := enough-a.Left, shown(a, enough)
		for fuel := consumed - 1; fuel >= 0; fuel -= 1 + consumed/20 {
			expectText(t, texts(rs), shown(omega.Decide(rs, 0, fuel), fuel), noFuel)
		}
		known := ways["piece Sat"] == 0
		for _, fuel := range []int{consumed, consumed + 1, consumed + 20, consumed + 300, consumed + 4096, enough + 5000, api.MaxFuel} {
			known = known || fuel >= consumed+api.MaxCubes
			got := shown(omega.Decide(rs, 0, fuel), fuel)
			if known || got != noFuel {
				known = true
				expectText(t, fmt.Sprint(texts(rs), " with ", fuel), got, want)
			}
		}
		if got := omega.Decide(rs, 0, consumed); got.State != omega.Fuel && got.Left == 0 {
			exactly++
		}
	}
	if exactly < 200 {
		t.Errorf("for only %d samples, what is consumed is sufficient", exactly)
	}
}

// TestP8_3Order: other orders and duplicates; what is consumed may change.
func TestP8_3Order(t *testing.T) {
	r := rand.New(rand.NewSource(3))
	known := map[int]int{}
	for _, rs := range samples(300) {
		want := omega.Decide(rs, 3, enough)
		for range 4 {
			other := slices.Clone(rs)
			for range r.Intn(4) {
				if len(rs) > 0 {
					other = append(other, rs[r.Intn(len(rs))])
				}
			}
			r.Shuffle(len(other), func(i, j int) { other[i], other[j] = other[j], other[i] })
			got := omega.Decide(other, 3, enough)
			known[got.State]++
			if got.State != omega.Fuel && want.State != omega.Fuel && got.State != want.State {
				t.Errorf("%s: %s\n%s: %s", texts(rs), shown(want, enough), texts(other), shown(got, enough))
			}
			if got.State == omega.Sat && !hold(rs, got.Vals) {
				t.Errorf("%s do not hold at %s", texts(rs), valTexts(got.Vals))
			}
		}
	}
	if known[omega.Sat] < 200 || known[omega.Unsat] < 200 || known[omega.Fuel] > 100 {
		t.Errorf("states %v", known)
	}
}

// spare is a copy of rs of which all slices have spare capacity, and everything that
// was made for it, so that it can be overwritten.
func spare(rs []api.Rel) ([]api.Rel, [][]api.Part, []api.Nat) {
	var parts [][]api.Part
	var nats []api.Nat
	copied := func(a api.Int) api.Int {
		a.Abs = append(make(api.Nat, 0, len(a.Abs)+3), a.Abs...)
		nats = append(nats, a.Abs[:cap(a.Abs)])
		return a
	}
	all := make([]api.Rel, 0, len(rs)+3)
	for _, r := range rs {
		ps := make([]api.Part, 0, len(r.T.Parts)+3)
		for _, p := range r.T.Parts {
			ps = append(ps, api.Part{V: p.V, C: copied(p.C)})
		}
		parts = append(parts, ps[:cap(ps)])
		all = append(all, api.Rel{T: api.Term{Parts: ps, K: copied(r.T.K)}, Eq: r.Eq})
	}
	return all, parts, nats
}

// TestP8_4Memory overwrites first what the arguments are made of, and then the values.
func TestP8_4Memory(t *testing.T) {
	for i, rs := range samples(200) {
		mine, parts, nats := spare(rs)
		before := fmt.Sprint(mine[:cap(mine)], parts, nats)
		a := omega.Decide(mine, i%6, enough)
		if after := fmt.Sprint(mine[:cap(mine)], parts, nats); after != before {
			t.Fatalf("arguments %s become %s", before, after)
		}
		want := shown(a, enough)
		clear(mine[:cap(mine)])
		for _, ps := range parts {
			clear(ps)
		}
		for _, n := range nats {
			for limb := range n {
				n[limb] = 99
			}
		}
		expectText(t, "overwritten arguments", shown(a, enough), want)
		for v, val := range a.Vals {
			for limb := range val.Abs[:cap(val.Abs)] {
				val.Abs[:cap(val.Abs)][limb] = uint32(1000 + v)
			}
		}
		for v, val := range a.Vals {
			for _, limb := range val.Abs {
				if limb != uint32(1000+v) {
					t.Fatalf("%s: two values share memory", texts(rs))
				}
			}
		}
		expectText(t, texts(rs), shown(omega.Decide(rs, i%6, enough), enough), want)
	}
}
