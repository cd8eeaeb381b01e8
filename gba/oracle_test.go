package gba_test

import (
	"maps"
	"slices"
	"sort"
	"strings"

	"plumbline/api"
	"plumbline/gba"
	"plumbline/word"
)

// literal performs the construction as the document says it, with sets of texts.
type literal struct {
	order  []string // all subproperties in the order of their first occurrence
	subs   map[string]api.Ltl
	g      gba.Gba
	number map[string]int // of each node
	steps  int
}

type job struct {
	todo, done, next map[string]bool
	origin           int // -1 is the start
}

func (l *literal) occur(f api.Ltl) {
	if _, ok := l.subs[told(f)]; !ok {
		l.order = append(l.order, told(f))
		l.subs[told(f)] = f
	}
	for _, kid := range f.Kids {
		l.occur(kid)
	}
}

// construct returns the nodes of the automaton, without Sets, and the number of steps,
// and false if there are too many.
func construct(f api.Ltl) (gba.Gba, int, bool) {
	f = word.Plain(f, false)
	l := &literal{subs: map[string]api.Ltl{}, number: map[string]int{}}
	l.occur(f)
	stack := []job{{map[string]bool{told(f): true}, map[string]bool{}, map[string]bool{}, -1}}
	for len(stack) > 0 {
		l.steps++
		j := stack[len(stack)-1]
		stack = append(stack[:len(stack)-1], l.step(j)...)
		if l.steps > 65536 || len(l.g.Nodes) > 4096 {
			return gba.Gba{}, l.steps, false
		}
	}
	l.g.First = set(l.g.First)
	for i := range l.g.Nodes {
		l.g.Nodes[i].Next = set(l.g.Nodes[i].Next)
	}
	return l.g, l.steps, true
}

// set is a list in increasing order, without duplicates.
func set(list []int) []int {
	sort.Ints(list)
	return slices.Compact(list)
}

// step returns what is put on the stack for a job, that which is taken first last.
func (l *literal) step(j job) []job {
	if len(j.todo) == 0 {
		return l.finish(j)
	}
	name := ""
	for _, name = range l.order {
		if j.todo[name] {
			break
		}
	}
	j = more(j, func(j job) { delete(j.todo, name) })
	if j.done[name] {
		return []job{j}
	}
	j.done[name] = true
	f := l.subs[name]
	kid := func(i int) string { return told(f.Kids[i]) }
	switch f.Kind {
	case api.TFalse:
		return nil
	case api.TCmp:
		if j.done[told(not(f))] {
			return nil
		}
	case api.TNot:
		if j.done[kid(0)] {
			return nil
		}
	case api.TAnd:
		return []job{more(j, func(j job) { j.todo[kid(0)], j.todo[kid(1)] = true, true })}
	case api.TNext:
		return []job{more(j, func(j job) { j.next[kid(0)] = true })}
	case api.TOr:
		return []job{more(j, func(j job) { j.todo[kid(1)] = true }), more(j, func(j job) { j.todo[kid(0)] = true })}
	case api.TUntil:
		return []job{more(j, func(j job) { j.todo[kid(0)], j.next[name] = true, true }), more(j, func(j job) { j.todo[kid(1)] = true })}
	case api.TFree:
		return []job{more(j, func(j job) { j.todo[kid(1)], j.next[name] = true, true }), more(j, func(j job) { j.todo[kid(0)], j.todo[kid(1)] = true, true })}
	}
	return []job{j}
}

// more is a copy of a job, changed.
func more(j job, change func(job)) job {
	j = job{maps.Clone(j.todo), maps.Clone(j.done), maps.Clone(j.next), j.origin}
	change(j)
	return j
}

func (l *literal) finish(j job) []job {
	text := func(s map[string]bool) string { return strings.Join(slices.Sorted(maps.Keys(s)), "") }
	name := text(j.done) + "then" + text(j.next)
	n, old := l.number[name]
	if !old {
		n = len(l.g.Nodes)
		l.number[name] = n
		l.g.Nodes = append(l.g.Nodes, l.node(j))
	}
	if j.origin < 0 {
		l.g.First = append(l.g.First, n)
	} else {
		l.g.Nodes[j.origin].Next = append(l.g.Nodes[j.origin].Next, n)
	}
	if old {
		return nil
	}
	return []job{{j.next, map[string]bool{}, map[string]bool{}, n}}
}

func (l *literal) node(j job) gba.Node {
	var n gba.Node
	for name := range j.done {
		switch f := l.subs[name]; f.Kind {
		case api.TCmp:
			n.Must = append(n.Must, f.Prop)
		case api.TNot:
			n.Never = append(n.Never, f.Kids[0].Prop)
		}
	}
	return gba.Node{Must: set(n.Must), Never: set(n.Never)}
}

// untils is the number of different subproperties of kind TUntil of Plain.
func untils(f api.Ltl) int {
	l := &literal{subs: map[string]api.Ltl{}}
	l.occur(word.Plain(f, false))
	n := 0
	for _, g := range l.subs {
		if g.Kind == api.TUntil {
			n++
		}
	}
	return n
}

// accepts is what the document says of an automaton and a word: some pair of a node and
// a position can be reached that can be reached from itself through each of the Sets.
func accepts(g gba.Gba, w word.Word) bool {
	if len(w.Cycle) == 0 {
		return false
	}
	all := slices.Concat(w.Stem, w.Cycle)
	exists := func(n int) bool { return n >= 0 && n < len(g.Nodes) }
	pair := func(n, at int) int { return n*len(all) + at }
	allowed := func(n, at int) bool {
		holds := func(a int) bool { return a >= 0 && a < len(all[at]) && all[at][a] }
		for _, a := range g.Nodes[n].Must {
			if !holds(a) {
				return false
			}
		}
		for _, a := range g.Nodes[n].Never {
			if holds(a) {
				return false
			}
		}
		return true
	}
	size := len(g.Nodes) * len(all)
	way := make([][]bool, size+1) // by one or more edges; the last one leads to the pairs of First
	for i := range way {
		way[i] = make([]bool, size)
	}
	for _, n := range g.First {
		if exists(n) && allowed(n, 0) {
			way[size][pair(n, 0)] = true
		}
	}
	for n, node := range g.Nodes {
		for at := range all {
			then := at + 1
			if then == len(all) {
				then = len(w.Stem)
			}
			for _, to := range node.Next {
				if exists(to) && allowed(n, at) && allowed(to, then) {
					way[pair(n, at)][pair(to, then)] = true
				}
			}
		}
	}
	for k := range size {
		for i := range way {
			for j := range size {
				if way[i][k] && way[k][j] {
					way[i][j] = true
				}
			}
		}
	}
	round := func(x int) bool { // through each of the Sets
		for _, set := range g.Sets {
			through := false
			for _, n := range set {
				for at := range all {
					through = through || exists(n) && way[x][pair(n, at)] && way[pair(n, at)][x]
				}
			}
			if !through {
				return false
			}
		}
		return way[x][x]
	}
	for x := range size {
		if way[size][x] && round(x) {
			return true
		}
	}
	return false
}
