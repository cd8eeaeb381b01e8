package confine

import (
	"iter"
	"slices"

	"plumbline/api"
	"plumbline/kripke"
	"plumbline/zint"
)

// most is the greatest number of values of a variable, and the greatest number of
// states.
const most = 1 << 20

// space contains the numbers of the states that fit a confined system. Its places are
// the processes, and behind them the variables.
type space struct {
	sys     api.Sys
	sizes   []int // how many locations or values each place has
	strides []int // how much greater a number becomes with the next location or value
	count   int
}

// spaceOf returns the space of s, or false if s is not confined.
func spaceOf(s api.Sys) (space, bool) {
	c := space{sys: s, count: 1}
	for _, p := range s.Procs {
		c.sizes = append(c.sizes, len(p.Locs))
	}
	for v := range s.Vars {
		size, ok := valuesOf(s, v)
		if !ok {
			return space{}, false
		}
		c.sizes = append(c.sizes, size)
	}
	c.strides = make([]int, len(c.sizes))
	if slices.Contains(c.sizes, 0) {
		c.count = 0
		return c, true
	}
	for i, size := range slices.Backward(c.sizes) {
		c.strides[i] = c.count
		if size > most/c.count {
			return space{}, false
		}
		c.count *= size
	}
	return c, true
}

// valuesOf returns how many values a variable has, or false if they are too many.
func valuesOf(s api.Sys, v int) (int, bool) {
	if v >= len(s.Bounds) || !s.Bounds[v].Is {
		return 0, false
	}
	b := s.Bounds[v]
	if zint.Cmp(b.Lo, b.Hi) > 0 {
		return 0, true
	}
	far, ok := zint.Small(zint.Sub(b.Hi, b.Lo))
	if !ok || far >= most {
		return 0, false
	}
	return int(far) + 1, true
}

// state returns the state with a number that exists.
func (c space) state(n int) api.State {
	var x api.State
	for i, size := range c.sizes {
		digit := n / c.strides[i] % size
		if i < len(c.sys.Procs) {
			x.Locs = append(x.Locs, digit)
			continue
		}
		lo := c.sys.Bounds[i-len(c.sys.Procs)].Lo
		x.Vals = append(x.Vals, zint.Add(lo, zint.Of(int64(digit))))
	}
	return x
}

// number returns the number of a state that fits.
func (c space) number(x api.State) int {
	n := 0
	for i, loc := range x.Locs {
		n += loc * c.strides[i]
	}
	for v, val := range x.Vals {
		digit, _ := zint.Small(zint.Sub(val, c.sys.Bounds[v].Lo))
		n += int(digit) * c.strides[len(x.Locs)+v]
	}
	return n
}

// firsts goes through the initial states and their numbers.
func (c space) firsts() iter.Seq2[int, api.State] {
	end := c.count
	if procs := len(c.sys.Procs); procs > 0 {
		end = c.strides[procs-1] // from there on, the last process has left its first location
	}
	return func(yield func(int, api.State) bool) {
		for n := range end {
			x := c.state(n)
			if kripke.First(c.sys, x) && !yield(n, x) {
				return
			}
		}
	}
}
