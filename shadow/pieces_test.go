package shadow_test

import (
	"math"
	"math/big"
	"testing"

	"plumbline/api"
	"plumbline/rel"
	"plumbline/shadow"
	"plumbline/term"
	"plumbline/zint"
)

func TestP7_1Pieces(t *testing.T) {
	for _, c := range []struct {
		rs      []api.Rel
		v, most int
		want    string
	}{
		{nil, 0, 5, ""}, {[]api.Rel{}, 0, -5, ""},
		// no upper bound, no lower bound, no bound
		{[]api.Rel{least(0, 5), least(1, 3)}, 0, 0, ""}, {[]api.Rel{least(0, -5)}, 0, 0, ""}, {[]api.Rel{least(0, 5, 2), least(0, -5)}, 2, 0, ""},
		{[]api.Rel{least(0, 5, 2), least(0, -5)}, -1, -1, ""}, {[]api.Rel{least(0, 5, 2), least(0, -5)}, math.MinInt, 9, ""},
		// (b * a - b - a) / b is less than 0
		{[]api.Rel{least(0, 1), least(3, -5)}, 0, 0, ""}, {[]api.Rel{least(0, 5), least(3, -1)}, 0, -1, ""},
		// it is 0: (4 - 4) / 2; (6 - 5) / 3; and 1: (6 - 5) / 2 is 0, (9 - 6) / 3 is 1
		{[]api.Rel{least(1, 2), least(3, -2)}, 0, 1, "2*x + 1 = 0, 2*x + 1 >= 0, -2*x + 3 >= 0"},
		{[]api.Rel{least(0, 2, -1), least(1, -3, 1)}, 0, 1, "2*x - y = 0, 2*x - y >= 0, -3*x + y + 1 >= 0"},
		{[]api.Rel{least(3, -2), least(1, 3)}, 0, 9, "3*x + 1 = 0, -2*x + 3 >= 0, 3*x + 1 >= 0"},
		{[]api.Rel{least(3, -3), least(1, 3)}, 0, 2, "3*x + 1 = 0, -3*x + 3 >= 0, 3*x + 1 >= 0; 3*x = 0, -3*x + 3 >= 0, 3*x + 1 >= 0"},
		// the greatest b counts, and each lower bound has its own number
		{[]api.Rel{least(0, 2), least(7, -2), least(8, 0, 1), least(9, -5), least(0, 1), least(1, 3, 1)}, 0, 3,
			"2*x = 0, 2*x >= 0, -2*x + 7 >= 0, y + 8 >= 0, -5*x + 9 >= 0, x >= 0, 3*x + y + 1 >= 0; " +
				"3*x + y + 1 = 0, 2*x >= 0, -2*x + 7 >= 0, y + 8 >= 0, -5*x + 9 >= 0, x >= 0, 3*x + y + 1 >= 0; " +
				"3*x + y = 0, 2*x >= 0, -2*x + 7 >= 0, y + 8 >= 0, -5*x + 9 >= 0, x >= 0, 3*x + y + 1 >= 0"},
		// relations with Eq are bounds, and keep it
		{[]api.Rel{zero(1, 2), zero(3, -2), zero(4, 0, 6)}, 0, 1, "2*x + 1 = 0, 2*x + 1 = 0, -2*x + 3 = 0, 6*y + 4 = 0"},
		// terms that are not plain
		{[]api.Rel{{T: odd(), Eq: true}, least(0, 0, 2)}, 1, 1, "2*y = 0, x - 2*y + 3 = 0, 2*y >= 0"},
	} {
		got, e := shadow.Pieces(c.rs, c.v, c.most)
		expectText(t, "Pieces of "+texts(c.rs), listTexts(got), c.want)
		if e != api.OK {
			t.Errorf("Pieces of %s: error %d", texts(c.rs), e)
		}
	}
}

func expectMany(t *testing.T, rs []api.Rel, v, most int) {
	t.Helper()
	if got, e := shadow.Pieces(rs, v, most); e != api.ErrMany || got != nil {
		t.Errorf("Pieces of %s with %d: %d lists, %d, want ErrMany", texts(rs), most, len(got), e)
	}
}

// piecesByRules are Pieces as the document words them, for numbers that are small.
func piecesByRules(rs []api.Rel, v int) [][]api.Rel {
	b := int64(0)
	for _, r := range rs {
		c, _ := zint.Small(term.Coef(r.T, v))
		b = max(b, -c)
	}
	var all [][]api.Rel
	for _, r := range rs {
		a, _ := zint.Small(term.Coef(r.T, v))
		if a <= 0 || b == 0 {
			continue
		}
		for i := int64(0); i*b <= b*a-b-a; i++ {
			all = append(all, append([]api.Rel{rel.Zero(term.Sub(r.T, term.Number(number(i))))}, rs...))
		}
	}
	return all
}

func TestP7_1PiecesByRules(t *testing.T) {
	some := 0
	for _, rs := range samples(400, 3) {
		for v := -1; v <= 3; v++ {
			want := piecesByRules(rs, v)
			got, e := shadow.Pieces(rs, v, len(want))
			expectText(t, "Pieces of "+texts(rs), listTexts(got), listTexts(want))
			if e != api.OK {
				t.Errorf("Pieces of %s: error %d", texts(rs), e)
			}
			for _, list := range got {
				expectPlain(t, "Pieces of "+texts(rs), list)
			}
			if len(want) > 0 {
				some++
				expectMany(t, rs, v, len(want)-1)
				expectMany(t, rs, v, 0)
				expectMany(t, rs, v, -1)
				expectMany(t, rs, v, math.MinInt)
			}
		}
	}
	if some < 300 {
		t.Errorf("only %d lists have Pieces", some)
	}
}

func TestP7_1PiecesBound(t *testing.T) {
	// for a = 1001 and b = 2000, the greatest i is (2000 * 1001 - 3001) / 2000
	wide := []api.Rel{least(0, 1001), least(5, -2000), least(5, -7)}
	want := new(big.Int).Div(big.NewInt(2000*1001-3001), big.NewInt(2000)).Int64() + 1
	got, e := shadow.Pieces(wide, 0, int(want))
	if e != api.OK || int64(len(got)) != want || texts(got[want-1][:1]) != "1001*x - "+zint.Text(number(want-1))+" = 0" {
		t.Errorf("Pieces: %d lists, %d", len(got), e)
	}
	expectMany(t, wide, 0, int(want-1))
	// the lists of all lower bounds count: each has 2
	thrice := []api.Rel{least(0, 3), least(1, 3), least(2, 3), least(9, -3)}
	if got, e := shadow.Pieces(thrice, 0, 6); e != api.OK || len(got) != 6 {
		t.Errorf("Pieces: %d lists, %d", len(got), e)
	}
	expectMany(t, thrice, 0, 5)
	expectMany(t, thrice, 0, 4)
}

func TestP7_1PiecesOfLongNumbers(t *testing.T) {
	for _, abs := range []api.Nat{{0, 0, 1}, {0, 1 << 31}, {0, 1 << 30}, {1, 1 << 31, 0}, {0, 0, 0, 5}} {
		long := api.Rel{T: api.Term{Parts: []api.Part{{V: 0, C: api.Int{Abs: abs}}}}}
		high := api.Rel{T: term.Neg(long.T)}
		// two lower bounds, the numbers of which may overflow together
		for _, most := range []int{math.MinInt, -1, 0, 1, api.MaxCubes, math.MaxInt32, 1 << 60} {
			expectMany(t, []api.Rel{long, high, least(0, 2)}, 0, most)
			expectMany(t, []api.Rel{least(0, 2), long, long, high}, 0, most)
		}
		// an upper bound may be long
		if got, e := shadow.Pieces([]api.Rel{least(0, 3), high}, 0, 2); e != api.OK || len(got) != 2 {
			t.Errorf("Pieces: %d lists, %d", len(got), e)
		}
		expectMany(t, []api.Rel{least(0, 3), high}, 0, 1)
	}
	huge := api.Rel{T: api.Term{Parts: []api.Part{{V: 0, C: api.Int{Abs: api.Nat{0, 1 << 31}}}}}}
	expectMany(t, []api.Rel{huge, huge, huge, huge, {T: term.Neg(huge.T)}}, 0, math.MaxInt)
}
