package zint_test

import (
	"slices"
	"testing"

	"plumbline/api"
	"plumbline/zint"
)

const mark = 0xdeadbeef

// calls are all functions, with the numbers they return.
func calls() map[string]func(a, b api.Int) []api.Int {
	one := func(f func(api.Int) api.Int) func(a, b api.Int) []api.Int {
		return func(a, b api.Int) []api.Int { return []api.Int{f(a)} }
	}
	two := func(f func(a, b api.Int) api.Int) func(a, b api.Int) []api.Int {
		return func(a, b api.Int) []api.Int { return []api.Int{f(a, b)} }
	}
	failing := func(f func(a, b api.Int) (api.Int, api.Errno)) func(a, b api.Int) []api.Int {
		return func(a, b api.Int) []api.Int {
			r, e := f(a, b)
			return []api.Int{r, zint.Of(int64(e))}
		}
	}
	return map[string]func(a, b api.Int) []api.Int{
		"From": func(a, b api.Int) []api.Int { return []api.Int{zint.From(a.Neg, a.Abs), zint.From(b.Neg, a.Abs)} },
		"Neg":  one(zint.Neg), "Abs": one(zint.Abs),
		"Add": two(zint.Add), "Sub": two(zint.Sub), "Mul": two(zint.Mul),
		"Gcd": two(zint.Gcd), "Lcm": two(zint.Lcm), "Min": two(zint.Min), "Max": two(zint.Max),
		"Ceil": failing(zint.Ceil), "Exact": failing(zint.Exact), "Hat": failing(zint.Hat),
		"Div": func(a, b api.Int) []api.Int {
			q, r, e := zint.Div(a, b)
			return []api.Int{q, r, zint.Of(int64(e))}
		},
		"Bezout": func(a, b api.Int) []api.Int {
			g, x, y := zint.Bezout(a, b)
			return []api.Int{g, x, y}
		},
		"Small, Sign, Cmp, Text": func(a, b api.Int) []api.Int {
			n, _ := zint.Small(a)
			parsed, _ := zint.Parse(zint.Text(a))
			return []api.Int{zint.Of(n), zint.Of(int64(zint.Sign(a))), zint.Of(int64(zint.Cmp(a, b))), parsed}
		},
	}
}

// spare is a copy of a with limbs in memory that goes on behind them.
func spare(a api.Int) api.Int {
	return api.Int{Neg: a.Neg, Abs: append(slices.Clone(a.Abs), mark, mark, mark)[:len(a.Abs)]}
}

func copies(as []api.Nat) []api.Nat {
	var r []api.Nat
	for _, a := range as {
		r = append(r, slices.Clone(a))
	}
	return r
}

func same(as, bs []api.Int) bool {
	return slices.EqualFunc(as, bs, func(a, b api.Int) bool {
		return a.Neg == b.Neg && slices.Equal(a.Abs, b.Abs)
	})
}

// TestP2_4Memory overwrites one after the other what went in and what came out.
func TestP2_4Memory(t *testing.T) {
	for name, call := range calls() {
		for _, p := range pairs() {
			a, b := spare(p[0]), spare(p[1])
			results := call(a, b)
			var shared []api.Nat
			for _, n := range append([]api.Int{a, b}, results...) {
				shared = append(shared, n.Abs[:cap(n.Abs)])
			}
			if before := spare(p[0]); !same([]api.Int{a}, []api.Int{before}) || !slices.Equal(shared[0][len(a.Abs):][:3], api.Nat{mark, mark, mark}) {
				t.Fatalf("%s modifies %v", name, p[0])
			}
			if before := spare(p[1]); !same([]api.Int{b}, []api.Int{before}) || !slices.Equal(shared[1][len(b.Abs):][:3], api.Nat{mark, mark, mark}) {
				t.Fatalf("%s modifies %v", name, p[1])
			}
			for i := range shared {
				kept := copies(shared)
				for j := range shared[i] {
					shared[i][j] = mark
				}
				for j := range shared {
					if i != j && !slices.Equal(shared[j], kept[j]) {
						t.Fatalf("%s of %v: numbers %d and %d share memory", name, p, i, j)
					}
				}
			}
		}
	}
}

// TestP2_4SameNumberTwice passes the same memory as both arguments.
func TestP2_4SameNumberTwice(t *testing.T) {
	for name, call := range calls() {
		for _, x := range samples() {
			a := spare(x)
			if got := call(a, a); !same(got, call(spare(x), spare(x))) || !same([]api.Int{a}, []api.Int{x}) {
				t.Errorf("%s of %v and itself", name, x)
			}
		}
	}
}

// TestP2SameNumberSameResult asks everything twice, and in other forms.
func TestP2SameNumberSameResult(t *testing.T) {
	longer := func(a api.Int) api.Int {
		return api.Int{Neg: a.Neg || zint.Sign(a) == 0, Abs: append(slices.Clone(a.Abs), 0, 0)}
	}
	for name, call := range calls() {
		if name == "From" { // takes neg for what it is
			continue
		}
		for _, p := range pairs() {
			first := call(p[0], p[1])
			if !same(first, call(p[0], p[1])) || !same(first, call(longer(p[0]), longer(p[1]))) {
				t.Errorf("%s of %v is not always the same", name, p)
			}
		}
	}
}
