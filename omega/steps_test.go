package omega_test

import (
	"math"
	"slices"
	"testing"

	"plumbline/api"
	"plumbline/elim"
	"plumbline/omega"
	"plumbline/rel"
	"plumbline/shadow"
)

// A course follows the document's steps, word for word. It panics with tooLittle
// where the state is Fuel, and counts which ways it takes.
type course struct {
	left int
	ways map[string]int
}

type tooLittle struct{}

func (c *course) take(way string) { c.ways[way]++ }

// step returns the values, and whether the state is Sat.
func (c *course) step(rs []api.Rel, next int) ([]api.Int, bool) {
	if c.left < 1+len(rs) {
		c.take("too little for a step")
		panic(tooLittle{})
	}
	c.left -= 1 + len(rs)
	s := elim.Solve(rs, next)
	if !s.OK {
		c.take("not OK")
		return nil, false
	}
	if s.Next > s.First {
		c.take("fresh variables")
	}
	vals, ok := c.rest(s.Rest, s.Next)
	if !ok {
		return nil, false
	}
	return elim.Back(s.Swaps, vals), true
}

func (c *course) rest(rs []api.Rel, next int) ([]api.Int, bool) {
	if !slices.ContainsFunc(rs, func(r api.Rel) bool { return len(rel.Vars(r)) > 0 }) {
		c.take("no variable")
		return nil, true
	}
	v, exact := shadow.Choose(rs)
	vals, ok := c.step(shadow.Real(rs, v), next)
	if !ok {
		c.take("real shadow Unsat")
		return nil, false
	}
	if exact {
		c.take("real shadow exact")
		return c.fitting(rs, v, vals), true
	}
	if vals, ok = c.step(shadow.Dark(rs, v), next); ok {
		c.take("dark shadow Sat")
		return c.fitting(rs, v, vals), true
	}
	return c.pieces(rs, v, next)
}

func (c *course) pieces(rs []api.Rel, v, next int) ([]api.Int, bool) {
	lists, e := shadow.Pieces(rs, v, math.MaxInt32)
	if e != api.OK || len(lists) > 4096 || len(lists) > c.left {
		c.take("too many pieces")
		panic(tooLittle{})
	}
	for _, list := range lists {
		if vals, ok := c.step(list, next); ok {
			c.take("piece Sat")
			return vals, true
		}
	}
	c.take("pieces Unsat")
	return nil, false
}

// fitting are vals with a value of v. Others than v keep theirs, and 0 if there is
// none in vals.
func (c *course) fitting(rs []api.Rel, v int, vals []api.Int) []api.Int {
	val, ok := shadow.Fit(rs, v, vals)
	if !ok {
		c.take("no value fits")
	}
	longer := append([]api.Int(nil), vals...)
	for len(longer) <= v {
		longer = append(longer, api.Int{})
	}
	longer[v] = val
	return longer
}

// followed is the answer for relations with variables up to 65535, where n and fuel
// are within their limits, and the ways that were taken.
func followed(rs []api.Rel, n, fuel int) (a omega.Answer, ways map[string]int) {
	c := &course{left: fuel, ways: map[string]int{}}
	defer func() {
		switch p := recover(); p {
		case nil:
		case tooLittle{}:
			a, ways = omega.Answer{State: 3}, c.ways
		default:
			panic(p)
		}
	}()
	vals, ok := c.step(rs, n)
	if !ok {
		return omega.Answer{State: 2, Left: c.left}, c.ways
	}
	size := n
	for _, r := range rs {
		for _, v := range rel.Vars(r) {
			size = max(size, v+1)
		}
	}
	vals = append(vals, make([]api.Int, size)...)[:size]
	return omega.Answer{State: 1, Vals: vals, Left: c.left}, c.ways
}

func TestP8_1Steps(t *testing.T) {
	taken := map[string]int{}
	for i, rs := range samples(800) {
		for _, fuel := range []int{enough, i % 200} {
			want, ways := followed(rs, i%5, fuel)
			for way := range ways {
				taken[way]++
			}
			expectText(t, texts(rs), shown(omega.Decide(rs, i%5, fuel), fuel), shown(want, fuel))
		}
	}
	for _, way := range []string{
		"too little for a step", "not OK", "fresh variables", "no variable", "real shadow Unsat", "real shadow exact",
		"dark shadow Sat", "too many pieces", "piece Sat", "pieces Unsat",
	} {
		if taken[way] < 20 {
			t.Errorf("%s: only %d samples", way, taken[way])
		}
	}
	if n := taken["no value fits"]; n > 0 {
		t.Errorf("no value fits in %d samples", n)
	}

}
