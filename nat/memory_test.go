package nat_test

import (
	"slices"
	"testing"

	"plumbline/api"
	"plumbline/nat"
)

const mark = 0xdeadbeef

// calls are all functions that return numbers, with the numbers they return.
func calls() map[string]func(a, b api.Nat) []api.Nat {
	return map[string]func(a, b api.Nat) []api.Nat{
		"Trim": func(a, b api.Nat) []api.Nat { return []api.Nat{nat.Trim(a)} },
		"Add":  func(a, b api.Nat) []api.Nat { return []api.Nat{nat.Add(a, b)} },
		"Sub": func(a, b api.Nat) []api.Nat {
			d, _ := nat.Sub(a, b)
			return []api.Nat{d}
		},
		"Mul": func(a, b api.Nat) []api.Nat { return []api.Nat{nat.Mul(a, b)} },
		"Div": func(a, b api.Nat) []api.Nat {
			q, r, _ := nat.Div(a, b)
			return []api.Nat{q, r}
		},
		"Gcd": func(a, b api.Nat) []api.Nat { return []api.Nat{nat.Gcd(a, b)} },
		"Cmp, Bits, Bit, Text": func(a, b api.Nat) []api.Nat {
			return []api.Nat{{uint32(nat.Cmp(a, b)), uint32(nat.Bits(a)), uint32(len(nat.Text(a)))}, {}}
		},
		"Left": func(a, b api.Nat) []api.Nat {
			l, _ := nat.Left(a, 0)
			m, _ := nat.Left(a, 40)
			return []api.Nat{l, m}
		},
		"Right": func(a, b api.Nat) []api.Nat { return []api.Nat{nat.Right(a, 0), nat.Right(a, 40)} },
		"Pow": func(a, b api.Nat) []api.Nat {
			p, _ := nat.Pow(a, 1)
			q, _ := nat.Pow(a, 3)
			return []api.Nat{p, q}
		},
		"Root": func(a, b api.Nat) []api.Nat { return []api.Nat{nat.Root(a)} },
	}
}

// spare is a copy of a in memory that goes on behind it.
func spare(a api.Nat) api.Nat {
	return append(slices.Clone(a), mark, mark, mark)[:len(a)]
}

// all is a with the memory behind it.
func all(a api.Nat) api.Nat { return a[:cap(a)] }

func overwrite(a api.Nat) {
	for i := range a {
		a[i] = mark
	}
}

func copies(as []api.Nat) []api.Nat {
	var r []api.Nat
	for _, a := range as {
		r = append(r, slices.Clone(a))
	}
	return r
}

func equal(as, bs []api.Nat) bool {
	return slices.EqualFunc(as, bs, slices.Equal[api.Nat])
}

// TestP1_4Memory overwrites one after the other what went in and what came out.
func TestP1_4Memory(t *testing.T) {
	for name, call := range calls() {
		for _, x := range samples() {
			for _, y := range append(edges(), x) {
				args := []api.Nat{spare(x), spare(y)}
				before := copies([]api.Nat{all(args[0]), all(args[1])})
				results := call(args[0], args[1])
				if !equal([]api.Nat{all(args[0]), all(args[1])}, before) {
					t.Fatalf("%s of %v and %v modifies an argument", name, x, y)
				}
				var shared []api.Nat
				for _, a := range append(args, results...) {
					shared = append(shared, all(a))
				}
				for i := range shared {
					kept := copies(shared)
					overwrite(shared[i])
					for j := range shared {
						if i != j && !slices.Equal(shared[j], kept[j]) {
							t.Fatalf("%s of %v and %v: numbers %d and %d share memory", name, x, y, i, j)
						}
					}
				}
			}
		}
	}
}

// TestP1_4SameNumberTwice passes the same memory as both arguments.
func TestP1_4SameNumberTwice(t *testing.T) {
	for name, call := range calls() {
		for _, x := range samples() {
			a := spare(x)
			twice, want := call(a, a), call(slices.Clone(x), slices.Clone(x))
			if !equal(twice, want) || !slices.Equal(a, x) {
				t.Errorf("%s of %v and itself", name, x)
			}
		}
	}
}

// TestP2 asks everything twice, and with zero limbs at the end.
func TestP2SameNumberSameResult(t *testing.T) {
	for name, call := range calls() {
		for _, x := range samples() {
			for _, y := range edges() {
				first := call(x, y)
				again := call(append(slices.Clone(x), 0, 0), append(slices.Clone(y), 0))
				if !equal(first, call(x, y)) || !equal(first, again) {
					t.Errorf("%s of %v and %v is not always the same", name, x, y)
				}
			}
		}
	}
}
