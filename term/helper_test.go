package term_test

import (
	"encoding/binary"
	"maps"
	"math"
	"math/big"
	"math/rand"
	"slices"
	"testing"

	"plumbline/api"
	"plumbline/zint"
)

func number(n int64) api.Int { return zint.Of(n) }

func part(c int64, v int) api.Part { return api.Part{V: v, C: number(c)} }

func sumOf(k int64, parts ...api.Part) api.Term { return api.Term{Parts: parts, K: number(k)} }

// oddZeros are numbers 0 that are not in the form of results.
func oddZeros() []api.Int {
	return []api.Int{{Neg: true}, {Abs: api.Nat{}}, {Abs: api.Nat{0}}, {Neg: true, Abs: api.Nat{0, 0}}}
}

// edges are terms with what a plain term does not have, and terms that are plain.
func edges() []api.Term {
	huge := api.Int{Neg: true, Abs: api.Nat{7, 0, 1 << 31}}
	long := api.Int{Abs: api.Nat{6, 0, 0}}
	all := []api.Term{
		{}, {Parts: []api.Part{}}, sumOf(5), sumOf(-1), sumOf(1), {K: huge}, {K: long},
		sumOf(0, part(1, 0)), sumOf(2, part(-1, 0)), sumOf(0, part(-1, 0), part(1, 1)), sumOf(0, part(1, 1)),
		sumOf(2, part(3, 0), part(-1, 1)), sumOf(7, part(4, 0), part(-6, 1)), sumOf(-7, part(-4, 0), part(-6, 3)),
		sumOf(0, part(1, 0), part(2, 1), part(1, 0)), sumOf(1, part(2, 1), part(-2, 1)),
		sumOf(1, part(2, 1), part(-2, 1), part(3, 0)), sumOf(3, part(5, 2), part(5, 1), part(5, 0)),
		sumOf(3, part(5, -1)), sumOf(3, part(5, -1), part(2, 0), part(7, math.MinInt)), sumOf(0, part(0, 0)),
		sumOf(1, part(0, 2), part(3, 3), part(0, 5)), sumOf(0, part(3, math.MaxInt)),
		sumOf(0, part(3, math.MaxInt), part(2, 0), part(1, math.MaxInt)), sumOf(0, part(1, math.MaxInt), part(1, math.MinInt)),
		sumOf(4, part(1, math.MaxInt32), part(2, math.MaxInt32+1), part(3, math.MaxInt32-1)),
		{Parts: []api.Part{{V: 1, C: huge}, {V: 0, C: long}, {V: 1, C: zint.Neg(huge)}}, K: long},
		{Parts: []api.Part{{V: 0, C: huge}, {V: 2, C: long}}, K: huge},
	}
	for _, zero := range oddZeros() {
		all = append(all, api.Term{K: zero}, api.Term{Parts: []api.Part{{V: 0, C: zero}, part(2, 1), {V: 2, C: zero}}, K: zero})
	}
	return all
}

// samples are the edges and random terms.
func samples() []api.Term {
	r := rand.New(rand.NewSource(1))
	all := edges()
	for range 60 {
		t := sumOf(r.Int63n(41) - 20)
		for range r.Intn(6) {
			t.Parts = append(t.Parts, part(r.Int63n(9)-4, r.Intn(5)-1))
		}
		all = append(all, t)
	}
	return all
}

// lists are values, of several lengths.
func lists() [][]api.Int {
	r := rand.New(rand.NewSource(2))
	all := [][]api.Int{nil, {}, {number(3)}, oddZeros(), {number(-7), {Neg: true, Abs: api.Nat{0}}, {Abs: api.Nat{1, 0, 5, 0}}}}
	for range 10 {
		var vals []api.Int
		for range 5 {
			vals = append(vals, number(r.Int63n(21)-10))
		}
		all = append(all, vals)
	}
	return all
}

func wide(a api.Int) *big.Int {
	var bytes []byte
	for _, limb := range slices.Backward(a.Abs) {
		bytes = binary.BigEndian.AppendUint32(bytes, limb)
	}
	w := new(big.Int).SetBytes(bytes)
	if a.Neg {
		w.Neg(w)
	}
	return w
}

// A sum is what a term means: the coefficients other than 0 by their variables,
// and the constant.
type sum struct {
	c map[int]*big.Int
	k *big.Int
}

func newSum() sum { return sum{map[int]*big.Int{}, new(big.Int)} }

// add adds n times s to a sum.
func (a sum) add(n *big.Int, s sum) {
	for v, c := range s.c {
		a.addPart(v, new(big.Int).Mul(n, c))
	}
	a.k.Add(a.k, new(big.Int).Mul(n, s.k))
}

func (a sum) addPart(v int, c *big.Int) {
	if a.c[v] == nil {
		a.c[v] = new(big.Int)
	}
	a.c[v].Add(a.c[v], c)
	if a.c[v].Sign() == 0 {
		delete(a.c, v)
	}
}

func (a sum) vars() []int { return slices.Sorted(maps.Keys(a.c)) }

func meaning(t api.Term) sum {
	s := newSum()
	for _, p := range t.Parts {
		if p.V >= 0 {
			s.addPart(p.V, wide(p.C))
		}
	}
	s.k.Set(wide(t.K))
	return s
}

// put is s with the sums by in the variables' places.
func (a sum) put(by map[int]sum) sum {
	r := newSum()
	r.k.Set(a.k)
	for v, c := range a.c {
		if b, ok := by[v]; ok {
			r.add(c, b)
		} else {
			r.addPart(v, c)
		}
	}
	return r
}

func (a sum) value(vals []api.Int) *big.Int {
	n := new(big.Int).Set(a.k)
	for v, c := range a.c {
		if v < len(vals) {
			n.Add(n, new(big.Int).Mul(c, wide(vals[v])))
		}
	}
	return n
}

func (a sum) equals(b sum) bool {
	return maps.EqualFunc(a.c, b.c, func(x, y *big.Int) bool { return x.Cmp(y) == 0 }) && a.k.Cmp(b.k) == 0
}

// expect reports where a result is not plain or not the sum wanted.
func expect(t *testing.T, what string, got api.Term, want sum) {
	t.Helper()
	last := -1
	for _, p := range got.Parts {
		if p.V <= last || len(p.C.Abs) == 0 {
			t.Errorf("%s: %v is not plain", what, got)
		}
		last = p.V
		expectForm(t, what, p.C)
	}
	expectForm(t, what, got.K)
	if m := meaning(got); !m.equals(want) {
		t.Errorf("%s: got %v, want %v", what, m, want)
	}
}

func expectNumber(t *testing.T, what string, got api.Int, want *big.Int) {
	t.Helper()
	expectForm(t, what, got)
	if w := wide(got); w.Cmp(want) != 0 {
		t.Errorf("%s: got %v, want %v", what, w, want)
	}
}

func expectForm(t *testing.T, what string, got api.Int) {
	t.Helper()
	if n := len(got.Abs); n > 0 && got.Abs[n-1] == 0 || n == 0 && got.Neg {
		t.Errorf("%s: %v does not have the form of results", what, got)
	}
}
