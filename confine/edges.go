package confine

import (
	"slices"

	"plumbline/api"
	"plumbline/kripke"
	"plumbline/moves"
)

// stutter is the number of the step of a stuck state to itself.
const stutter = -1

// Edge is a step to a state.
type Edge struct {
	Act int
	To  api.State
}

// Edges returns all steps from x, act by act and pick by pick.
func Edges(s api.Sys, x api.State) []Edge {
	c, ok := spaceOf(s)
	if !ok || !kripke.Fits(s, x) {
		return nil
	}
	var all []Edge
	for _, f := range c.fansFrom(x, c.choices()) {
		for i := range f.choice.count {
			all = append(all, Edge{int(f.act), c.state(int(f.to(i)))})
		}
	}
	return all
}

// choice contains the lists of picks of an act, which are numbered in their order.
type choice struct {
	lows    []api.Int // the first list
	sizes   []int     // how many values each pick can have
	strides []int     // how much greater the number of a state becomes with the next one
	count   int
}

// choices returns the choice of the step -1, and then of each act.
func (c space) choices() []choice {
	all := []choice{{count: 1}}
	for _, a := range c.sys.Acts {
		all = append(all, c.choiceOf(a))
	}
	return all
}

func (c space) choiceOf(a api.Act) choice {
	picks := choice{count: 1}
	counting, _ := moves.First(a.Moves, len(c.sys.Vars))
	for _, i := range counting {
		if m := a.Moves[i]; m.Any {
			place := len(c.sys.Procs) + m.V
			picks.lows = append(picks.lows, c.sys.Bounds[m.V].Lo)
			picks.sizes = append(picks.sizes, c.sizes[place])
			picks.strides = append(picks.strides, c.strides[place])
			picks.count *= c.sizes[place]
		}
	}
	return picks
}

// distance returns how much greater the number of a state is with list i of picks than
// with the first one.
func (p *choice) distance(i int) int {
	sum := 0
	for k, size := range slices.Backward(p.sizes) {
		sum += i % size * p.strides[k]
		i /= size
	}
	return sum
}

// fan contains the steps of an act from a state, one for each list of picks. The first
// one leads to the state with number low.
type fan struct {
	act, low int32
	choice   *choice
}

// to returns the number of the state to which step i leads.
func (f fan) to(i int) int32 {
	return f.low + int32(f.choice.distance(i))
}

// fansFrom returns the steps from a state that fits. If an act leads to a state with the
// first list of picks, then with each of them, since all are within the bounds.
func (c space) fansFrom(x api.State, choices []choice) []fan {
	var all []fan
	for i := range choices[1:] {
		picks := &choices[i+1]
		if y, ok := kripke.Go(c.sys, x, i, picks.lows); ok {
			all = append(all, fan{int32(i), int32(c.number(y)), picks})
		}
	}
	if len(all) == 0 {
		all = append(all, fan{stutter, int32(c.number(x)), &choices[0]})
	}
	return all
}
