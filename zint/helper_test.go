package zint_test

import (
	"encoding/binary"
	"math/big"
	"math/rand"
	"slices"
	"testing"

	"plumbline/api"
)

const top = 1<<32 - 1

// samples are numbers with both signs, also of 0, with and without zero limbs at
// the end, and random ones.
func samples() []api.Int {
	limbs := []api.Nat{
		nil, {}, {0}, {0, 0}, {1}, {1, 0, 0}, {2}, {3}, {5}, {6}, {7}, {8}, {10}, {12}, {18}, {1 << 31}, {top},
		{0, 1}, {top, 1<<31 - 1}, {0, 1 << 31}, {0, 1 << 31, 0}, {1, 1 << 31}, {top, top}, {0, 0, 1}, {5, 0, 2, 0},
	}
	r := rand.New(rand.NewSource(3))
	for size := range 8 {
		a := make(api.Nat, size+1)
		for i := range a {
			a[i] = r.Uint32()
		}
		limbs = append(limbs, a)
	}
	var all []api.Int
	for _, a := range limbs {
		all = append(all, api.Int{Abs: a}, api.Int{Neg: true, Abs: slices.Clone(a)})
	}
	return all
}

// pairs are all pairs of samples, and all pairs of the least numbers.
func pairs() [][2]api.Int {
	var all [][2]api.Int
	for _, a := range samples() {
		for _, b := range samples() {
			all = append(all, [2]api.Int{a, b})
		}
	}
	for a := range uint32(25) {
		for b := range uint32(25) {
			for signs := range 4 {
				all = append(all, [2]api.Int{{Neg: signs&1 == 1, Abs: api.Nat{a}}, {Neg: signs&2 == 2, Abs: api.Nat{b}}})
			}
		}
	}
	return all
}

func wide(a api.Int) *big.Int {
	var bytes []byte
	for _, limb := range slices.Backward(a.Abs) {
		bytes = binary.BigEndian.AppendUint32(bytes, limb)
	}
	w := new(big.Int).SetBytes(bytes)
	if a.Neg {
		w.Neg(w)
	}
	return w
}

func isZero(a api.Int) bool { return !a.Neg && a.Abs == nil }

// expect reports where a result is not the number wanted, or not in the form of results.
func expect(t *testing.T, what string, got api.Int, want *big.Int) {
	t.Helper()
	if n := len(got.Abs); n > 0 && got.Abs[n-1] == 0 || n == 0 && got.Neg {
		t.Errorf("%s: %v does not have the form of results", what, got)
	}
	if w := wide(got); w.Cmp(want) != 0 {
		t.Errorf("%s: got %v, want %v", what, w, want)
	}
}
