package term_test

import (
	"math"
	"math/big"
	"slices"
	"testing"

	"plumbline/api"
	"plumbline/term"
)

func TestP3_1Put(t *testing.T) {
	for _, a := range samples() {
		for _, by := range edges() {
			for _, v := range []int{0, 1, 3, 9, math.MaxInt, -1, math.MinInt} {
				want := meaning(a)
				if v >= 0 {
					want = want.put(map[int]sum{v: meaning(by)})
				}
				expect(t, "Put", term.Put(a, v, by), want)
			}
		}
	}
}

func TestP3_1PutAll(t *testing.T) {
	all := edges()
	for _, a := range samples() {
		for i := range all {
			by := []api.Term{all[i], all[(i+3)%len(all)], all[(i+5)%len(all)]}
			m := []sum{meaning(by[0]), meaning(by[1]), meaning(by[2])}
			for _, x := range []struct {
				vs   []int
				by   []api.Term
				want map[int]sum
			}{
				{nil, nil, nil},
				{nil, by, nil},
				{[]int{0, 1}, nil, nil},
				{[]int{0, 1, 2}, by, map[int]sum{0: m[0], 1: m[1], 2: m[2]}},
				{[]int{2, 1, 0}, by, map[int]sum{2: m[0], 1: m[1], 0: m[2]}},
				{[]int{1, 1, 0}, by, map[int]sum{1: m[0], 0: m[2]}},
				{[]int{1, 0, 1, 0, 3}, by, map[int]sum{1: m[0], 0: m[1]}},
				{[]int{1, 0, 3}, by[:1], map[int]sum{1: m[0]}},
				{[]int{0, 1, 0}, by[:1], map[int]sum{0: m[0]}},
				{[]int{5, 6, 7, 0}, by, nil},
				{[]int{-1, math.MinInt, 1}, by, map[int]sum{1: m[2]}},
				{[]int{math.MaxInt, 9}, by, map[int]sum{math.MaxInt: m[0]}},
			} {
				expect(t, "PutAll", term.PutAll(a, x.vs, x.by), meaning(a).put(x.want))
			}
		}
	}
}

// TestP3_1PutAllBeyondBy: the first occurrence counts even if it has no term.
func TestP3_1PutAllBeyondBy(t *testing.T) {
	a := sumOf(1, part(2, 0), part(3, 1))
	got := term.PutAll(a, []int{1, 0, 0}, []api.Term{sumOf(5)})
	expect(t, "PutAll", got, meaning(sumOf(16, part(2, 0))))
	got = term.PutAll(a, []int{4, 1, 1}, []api.Term{sumOf(5)})
	expect(t, "PutAll", got, meaning(a))
}

// TestP3_1PutAllAtOnce swaps variables, which one after the other would not.
func TestP3_1PutAllAtOnce(t *testing.T) {
	a := sumOf(1, part(2, 0), part(3, 1))
	got := term.PutAll(a, []int{0, 1}, []api.Term{term.Var(1), term.Var(0)})
	expect(t, "PutAll", got, meaning(sumOf(1, part(3, 0), part(2, 1))))
}

// TestP3_1Move computes the new variables without overflow.
func TestP3_1Move(t *testing.T) {
	least, greatest := big.NewInt(math.MinInt32), big.NewInt(math.MaxInt32)
	shifts := []int{
		0, 1, 3, -1, -2, -4, 1 << 20, math.MaxInt32 - 3, math.MaxInt32 - 2, math.MaxInt32, math.MaxInt32 + 1, math.MaxInt,
		math.MinInt32 + 1, math.MinInt32, math.MinInt32 - 1, math.MinInt,
	}
	for _, a := range samples() {
		for _, n := range shifts {
			shift := big.NewInt(int64(n))
			if shift.Cmp(least) < 0 {
				shift = least
			}
			if shift.Cmp(greatest) > 0 {
				shift = greatest
			}
			want := newSum()
			want.k.Set(wide(a.K))
			for v, c := range meaning(a).c {
				moved := new(big.Int).Add(big.NewInt(int64(v)), shift)
				if moved.Sign() >= 0 && moved.Cmp(greatest) <= 0 {
					want.addPart(int(moved.Int64()), c)
				}
			}
			expect(t, "Move", term.Move(a, n), want)
		}
	}
}

// TestP3_1MoveIgnoresNegative: a part that is ignored does not come back.
func TestP3_1MoveIgnoresNegative(t *testing.T) {
	got := term.Move(sumOf(4, part(9, -1), part(2, 0)), 3)
	expect(t, "Move", got, meaning(sumOf(4, part(2, 3))))
}

// TestP3_1MoveAtTheEnds: variable 2^31 - 1 is kept, and 2^31 is not.
func TestP3_1MoveAtTheEnds(t *testing.T) {
	a := sumOf(4, part(1, 0), part(2, 1), part(3, math.MaxInt32), part(4, math.MaxInt32+1))
	for n, want := range map[int][]int{
		0:                 {0, 1, math.MaxInt32},
		1:                 {1, 2},
		-1:                {0, math.MaxInt32 - 1, math.MaxInt32},
		math.MaxInt32:     {math.MaxInt32},
		math.MaxInt32 - 1: {math.MaxInt32 - 1, math.MaxInt32},
		math.MaxInt:       {math.MaxInt32},
		math.MinInt32:     {0},
		math.MinInt:       {0},
	} {
		if got := term.Vars(term.Move(a, n)); !slices.Equal(got, want) {
			t.Errorf("Move by %d: variables %v", n, got)
		}
	}
}
