package gba

import (
	"slices"

	"plumbline/api"
)

// mostSteps is the greatest number of steps of a construction.
const mostSteps = 1 << 16

// start is the origin of the first task; the origin of any other is a node.
const start = -1

// content is what a node is made of: the processed properties, and those for the next
// position.
type content struct{ done, next set }

// task is a task of the construction, with the properties to process.
type task struct {
	content
	todo   set
	origin int
}

// builder performs the construction. Properties are numbers of subproperties.
type builder struct {
	*sets
	subs     []sub
	opposite map[int]int
	stack    []task
	nodes    []content
	number   map[content]int // of each node
	first    []int
	next     [][]int // of each node
}

// begin returns the construction for f, which is in the form of Plain.
func begin(f api.Ltl) *builder {
	all := subs(f)
	b := &builder{sets: setsTo(len(all)), subs: all, opposite: opposites(all), number: map[content]int{}}
	b.push(task{origin: start}, 0)
	return b
}

// push puts a task on the stack, with more properties to process.
func (b *builder) push(t task, todo ...int) {
	t.todo = b.with(t.todo, todo...)
	b.stack = append(b.stack, t)
}

// run performs all steps, and reports whether there were not too many steps or nodes.
func (b *builder) run() bool {
	for range mostSteps {
		if len(b.stack) == 0 {
			break
		}
		last := len(b.stack) - 1
		t := b.stack[last]
		b.stack = b.stack[:last]
		if t.todo != empty {
			b.process(t)
		} else if !b.finish(t) {
			return false
		}
	}
	return len(b.stack) == 0
}

// process takes the smallest property to process of a task, and puts back the task, or
// those that replace it; that which is to be taken first is put back last.
func (b *builder) process(t task) {
	n := b.least(t.todo)
	t.todo = b.flip(t.todo, n)
	if b.has(t.done, n) {
		b.push(t)
		return
	}
	t.done = b.flip(t.done, n)
	later := t
	s := b.subs[n]
	p, q := s.kids[0], s.kids[1]
	switch s.kind { // TFalse: the task is dropped
	case api.TTrue:
		b.push(t)
	case api.TCmp, api.TNot:
		if not, ok := b.opposite[n]; !ok || !b.has(t.done, not) {
			b.push(t)
		}
	case api.TAnd:
		b.push(t, p, q)
	case api.TNext:
		t.next = b.with(t.next, p)
		b.push(t)
	case api.TOr:
		b.push(t, q)
		b.push(t, p)
	case api.TUntil:
		later.next = b.with(t.next, n)
		b.push(later, p)
		b.push(t, q)
	case api.TFree:
		later.next = b.with(t.next, n)
		b.push(later, q)
		b.push(t, q, p)
	}
}

// finish adds an edge to the node of a task that has nothing to process. It returns
// false if there are too many nodes to create it.
func (b *builder) finish(t task) bool {
	n, ok := b.number[t.content]
	if !ok {
		n = len(b.nodes)
		if n == api.MaxNodes {
			return false
		}
		b.number[t.content] = n
		b.nodes = append(b.nodes, t.content)
		b.next = append(b.next, nil)
		b.push(task{todo: t.next, origin: n})
	}
	if t.origin == start {
		b.first = append(b.first, n)
	} else {
		b.next[t.origin] = append(b.next[t.origin], n)
	}
	return true
}

// automaton returns the automaton that has been constructed.
func (b *builder) automaton() Gba {
	g := Gba{First: increasing(b.first)}
	for n, c := range b.nodes {
		g.Nodes = append(g.Nodes, b.node(c, b.next[n]))
	}
	for n, s := range b.subs {
		if s.kind == api.TUntil {
			g.Sets = append(g.Sets, b.settled(n, s.kids[1]))
		}
	}
	return g
}

func (b *builder) node(c content, next []int) Node {
	n := Node{Next: increasing(next)}
	for _, i := range b.all(c.done) {
		switch s := b.subs[i]; s.kind {
		case api.TCmp:
			n.Must = append(n.Must, s.prop)
		case api.TNot:
			n.Never = append(n.Never, b.subs[s.kids[0]].prop)
		}
	}
	slices.Sort(n.Must)
	slices.Sort(n.Never)
	return n
}

// settled returns the nodes that do not postpone the property until, a p U q. As a p U q
// that is not in one of them remains for the next position, one that is postponed
// forever would be in all nodes from some position on, without its q.
func (b *builder) settled(until, q int) []int {
	all := make([]int, 0, len(b.nodes))
	for n, c := range b.nodes {
		if !b.has(c.done, until) || b.has(c.done, q) {
			all = append(all, n)
		}
	}
	return all
}

// increasing sorts a list and removes duplicates.
func increasing(list []int) []int {
	slices.Sort(list)
	return slices.Compact(list)
}
