package nat_test

import (
	"encoding/binary"
	"math/big"
	"math/rand"
	"slices"
	"testing"

	"plumbline/api"
	"plumbline/nat"
)

const top = 1<<32 - 1

// edges are numbers at which limbs overflow, end in zero limbs or have only one 1.
func edges() []api.Nat {
	return []api.Nat{
		nil, {}, {0}, {0, 0, 0}, {1}, {1, 0}, {2}, {3}, {4}, {9}, {10}, {1 << 31}, {top}, {top, 0, 0},
		{0, 1}, {1, 1}, {top, top}, {0, 1 << 31}, {0, 0, 1}, {0, 0, 1, 0}, {top, top, top}, {top, 0, top},
		{0, 0, 1 << 31}, {1, 0, 1 << 31}, {0, top, 1<<31 - 1}, {0, 0, 0, 1}, {top, top, top, top, 0},
	}
}

// number is a random one of size limbs, many of them extreme.
func number(r *rand.Rand, size int) api.Nat {
	a := make(api.Nat, size)
	for i := range a {
		switch r.Intn(8) {
		case 0:
			a[i] = 0
		case 1:
			a[i] = top
		case 2:
			a[i] = 1 << 31
		case 3:
			a[i] = 1<<31 - 1
		case 4:
			a[i] = 1
		default:
			a[i] = r.Uint32()
		}
	}
	return a
}

// samples are the edges, and random numbers of few and of many limbs.
func samples() []api.Nat {
	r := rand.New(rand.NewSource(1))
	all := edges()
	for _, size := range []int{1, 2, 2, 3, 3, 4, 5, 7, 11, 20, 46, 47, 48, 49, 95, 96, 97, 150, 200} {
		all = append(all, number(r, size))
	}
	return all
}

// pairs are all pairs of samples, and many random ones of few limbs.
func pairs() [][2]api.Nat {
	var all [][2]api.Nat
	for _, a := range samples() {
		for _, b := range samples() {
			all = append(all, [2]api.Nat{a, b})
		}
	}
	r := rand.New(rand.NewSource(2))
	for range 20000 {
		all = append(all, [2]api.Nat{number(r, r.Intn(8)), number(r, r.Intn(5))})
	}
	return all
}

func wide(a api.Nat) *big.Int {
	var bytes []byte
	for _, limb := range slices.Backward(a) {
		bytes = binary.BigEndian.AppendUint32(bytes, limb)
	}
	return new(big.Int).SetBytes(bytes)
}

// expect reports where a result is not the number wanted, or not in the form of results.
func expect(t *testing.T, what string, got api.Nat, want *big.Int) {
	t.Helper()
	if len(got) > 0 && got[len(got)-1] == 0 {
		t.Errorf("%s: zero limb at the end of %v", what, got)
	}
	if w := wide(got); w.Cmp(want) != 0 {
		t.Errorf("%s: got %v, want %v", what, w, want)
	}
}

func parsed(t *testing.T, s string) api.Nat {
	t.Helper()
	a, e := nat.Parse(s)
	if e != api.OK {
		t.Fatalf("Parse(%.20q): error %d", s, e)
	}
	return a
}
