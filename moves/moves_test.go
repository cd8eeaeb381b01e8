package moves_test

import (
	"fmt"
	"math"
	"math/rand"
	"slices"
	"testing"

	"plumbline/api"
	"plumbline/moves"
)

func movesOf(vs ...int) []api.Move {
	var all []api.Move
	for _, v := range vs {
		all = append(all, api.Move{V: v})
	}
	return all
}

func TestFirst(t *testing.T) {
	for _, x := range []struct {
		vs   []int
		n    int
		want string
		ok   bool
	}{
		{nil, 0, "[]", true}, {nil, 3, "[]", true}, {nil, -1, "[]", true}, {[]int{0}, 1, "[0]", true}, {[]int{0}, 0, "[]", false}, {[]int{1}, 1, "[]", false}, {[]int{-1}, 5, "[]", false}, {[]int{math.MaxInt}, 5, "[]", false}, {[]int{math.MinInt}, 5, "[]", false},
		{[]int{0, 1, 2}, 3, "[0 1 2]", true}, {[]int{2, 1, 0}, 3, "[2 1 0]", true}, {[]int{1, 1, 1}, 3, "[0]", true}, {[]int{2, 0, 2, 0, 1}, 3, "[1 4 0]", true}, {[]int{0, 0, 1, 1, 0}, 3, "[0 2]", true}, {[]int{0, 1, 0, 3}, 3, "[]", false}, {[]int{0, -1, 0}, 3, "[]", false},
	} {
		ms := movesOf(x.vs...)
		got, ok := moves.First(ms, x.n)
		if fmt.Sprint(got) != x.want || ok != x.ok {
			t.Errorf("%v of %d: %v, %v", x.vs, x.n, got, ok)
		}
		if !slices.EqualFunc(ms, x.vs, func(m api.Move, v int) bool { return m.V == v }) {
			t.Errorf("%v become %v", x.vs, ms)
		}
	}
}

// TestFirstByWords: variable by variable, the least index.
func TestFirstByWords(t *testing.T) {
	r := rand.New(rand.NewSource(1))
	for range 5000 {
		n := 1 + r.Intn(40)
		var vs []int
		for range r.Intn(60) {
			vs = append(vs, r.Intn(n))
		}
		var want []int
		for v := range n {
			if i := slices.Index(vs, v); i >= 0 {
				want = append(want, i)
			}
		}
		if got, ok := moves.First(movesOf(vs...), n); !ok || !slices.Equal(got, want) {
			t.Fatalf("%v: %v, not %v", vs, got, want)
		}
	}
}
