package nodes_test

import (
	"fmt"
	"math"
	"math/rand"
	"slices"
	"testing"

	"plumbline/nodes"
)

func TestAllow(t *testing.T) {
	for _, x := range []struct {
		must, never []int
		letter      []bool
		want        bool
	}{
		{nil, nil, nil, true}, {nil, nil, []bool{true}, true}, {[]int{0}, nil, []bool{true}, true}, {[]int{0}, nil, []bool{false}, false}, {nil, []int{0}, []bool{true}, false}, {nil, []int{0}, []bool{false}, true}, {[]int{0}, nil, nil, false}, {nil, []int{0}, nil, true}, {[]int{1}, nil, []bool{true}, false}, {[]int{-1}, nil, []bool{true}, false}, {nil, []int{-1}, []bool{true}, true}, {[]int{math.MaxInt}, nil, []bool{true}, false}, {nil, []int{math.MinInt, math.MaxInt}, []bool{true}, true},
		{[]int{2, 0}, []int{1}, []bool{true, false, true}, true}, {[]int{2, 0}, []int{1}, []bool{true, true, true}, false}, {[]int{2, 0}, []int{1}, []bool{true, false, false}, false}, {[]int{2, 0}, []int{1}, []bool{false, false, true}, false}, {[]int{0}, []int{0}, []bool{true}, false}, {[]int{0}, []int{0}, []bool{false}, false}, {[]int{0, 0}, []int{1, 2, 1}, []bool{true, false}, true}, {nil, []int{1, 0}, []bool{true, false}, false}, {nil, []int{0, 1}, []bool{false, true}, false},
	} {
		if nodes.Allow(x.must, x.never, x.letter) != x.want {
			t.Errorf("%v is not %v", x, x.want)
		}
	}
}

func TestExists(t *testing.T) {
	for _, x := range []struct {
		i, n int
		want bool
	}{{0, 0, false}, {0, 1, true}, {1, 1, false}, {-1, 1, false}, {4, 5, true}, {5, 5, false}, {math.MinInt, 5, false}, {math.MaxInt, 5, false}, {math.MaxInt - 1, math.MaxInt, true}} {
		if nodes.Exists(x.i, x.n) != x.want {
			t.Errorf("%v", x)
		}
	}
}

func TestExisting(t *testing.T) {
	for _, x := range []struct {
		list []int
		n    int
		want string
	}{
		{nil, 5, "[]"}, {[]int{0}, 0, "[]"}, {[]int{0}, 1, "[0]"}, {[]int{2, 0, 1}, 3, "[0 1 2]"}, {[]int{2, 0, 2, 2, 0}, 3, "[0 2]"}, {[]int{3, -1, 1, math.MinInt, math.MaxInt, 1 << 32, 2}, 3, "[1 2]"},
	} {
		list := slices.Clone(x.list)
		if got := fmt.Sprint(nodes.Existing(list, x.n)); got != x.want || !slices.Equal(list, x.list) {
			t.Errorf("%v: %s", x, got)
		}
	}
}

// expectRounds expects the groups that follow from all ways of one or more edges.
func expectRounds(t *testing.T, next [][]int) {
	t.Helper()
	n := len(next)
	way := make([][]bool, n)
	for i := range way {
		way[i] = make([]bool, n)
		for _, to := range next[i] {
			if to >= 0 && to < n {
				way[i][to] = true
			}
		}
	}
	for k := range n {
		for i := range n {
			for j := range n {
				way[i][j] = way[i][j] || way[i][k] && way[k][j]
			}
		}
	}
	groups := nodes.Rounds(next)
	if len(groups) != n {
		t.Fatalf("%v: %v", next, groups)
	}
	count := 0
	for i := range n {
		if groups[i] < -1 || (groups[i] == -1) == way[i][i] {
			t.Fatalf("%v: %v", next, groups)
		}
		for j := range i {
			if together := way[i][j] && way[j][i]; together != (groups[i] == groups[j] && groups[i] >= 0) {
				t.Fatalf("%v: %v", next, groups)
			}
		}
		count = max(count, groups[i]+1)
	}
	for group := range count {
		if !slices.Contains(groups, group) {
			t.Fatalf("%v: %v", next, groups)
		}
	}
}

func TestRounds(t *testing.T) {
	for _, x := range []struct {
		next [][]int
		want string
	}{
		{nil, "[]"}, {[][]int{nil}, "[-1]"}, {[][]int{{0}}, "[0]"}, {[][]int{{0, 0}}, "[0]"}, {[][]int{{-1, 1, math.MaxInt, math.MinInt}}, "[-1]"}, {[][]int{{1}, {0}}, "[0 0]"}, {[][]int{{1}, nil}, "[-1 -1]"}, {[][]int{{1}, {1}}, "[-1 0]"}, {[][]int{{0, 1}, nil}, "[0 -1]"}, {[][]int{{1}, {2}, {0}, {0}}, "[0 0 0 -1]"}, {[][]int{{-1, 1}, {5, 2}, {0, 3, -9}, nil}, "[0 0 0 -1]"},
	} {
		if got := fmt.Sprint(nodes.Rounds(x.next)); got != x.want {
			t.Errorf("%v: %s", x.next, got)
		}
		expectRounds(t, x.next)
	}
}

func TestRoundsByWays(t *testing.T) {
	r := rand.New(rand.NewSource(1))
	for i := range 20000 {
		next := make([][]int, r.Intn(9))
		for v := range next {
			for range r.Intn(2 + i%3) {
				next[v] = append(next[v], r.Intn(len(next)+2)-1)
			}
		}
		expectRounds(t, next)
	}
}

// TestRoundsLong: ways that are too long for calls within one another.
func TestRoundsLong(t *testing.T) {
	const n = 1 << 22
	next := make([][]int, n)
	for v := range next {
		next[v] = []int{(v + 1) % n}
	}
	for _, want := range []int{0, -1} {
		groups := nodes.Rounds(next)
		if groups[0] != want || groups[n-1] != want || groups[n/2] != want {
			t.Errorf("not all are in %d", want)
		}
		next[n-1] = nil
	}
}
