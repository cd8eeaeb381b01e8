// Package rules tests what the document's sections Rules and Promises (P1, P2)
// state for every function of every layer: it calls the functions with arguments
// of all kinds, and looks at arguments and results by reflection.
package rules

import (
	"fmt"
	"math"
	"math/rand"
	"reflect"
	"runtime"
	"testing"

	"plumbline/api"
	"plumbline/buchi"
	"plumbline/gba"
	"plumbline/lex"
	"plumbline/zint"
)

const rounds = 1000

// checkAll calls functions, and expects that they do not panic, do not modify
// their arguments, return new memory, return numbers in the form of results, and
// return the same for the same arguments in slices of other capacities.
func checkAll(t *testing.T, functions ...any) {
	t.Helper()
	checkBut(t, span{1, 0}, functions...)
}

// span contains the integers from one to another.
type span struct{ from, to int64 }

// checkBut is checkAll, but for calls with an integer in left: they would return
// too much for this way of looking at it.
func checkBut(t *testing.T, left span, functions ...any) {
	t.Helper()
	for _, f := range functions {
		name := runtime.FuncForPC(reflect.ValueOf(f).Pointer()).Name()
		t.Run(name, func(t *testing.T) {
			t.Parallel()
			checked := 0
			for seed := range int64(rounds) {
				if !contains(left, arguments(seed, reflect.TypeOf(f), 0)...) {
					check(t, reflect.ValueOf(f), seed)
					checked++
				}
			}
			if checked < rounds/4 {
				t.Errorf("only %d calls", checked)
			}
		})
	}
}

// contains reports whether an integer in vs is in s.
func contains(s span, vs ...reflect.Value) bool {
	for _, v := range vs {
		switch v.Kind() {
		case reflect.Int, reflect.Int64:
			if v.Int() >= s.from && v.Int() <= s.to {
				return true
			}
		case reflect.Struct:
			if contains(s, fields(v)...) {
				return true
			}
		case reflect.Slice:
			if contains(s, elements(v)...) {
				return true
			}
		}
	}
	return false
}

func check(t *testing.T, f reflect.Value, seed int64) {
	t.Helper()
	args := arguments(seed, f.Type(), 2)
	before := told(true, args...)
	defer func() {
		if p := recover(); p != nil {
			t.Fatalf("panic: %v, for %s", p, before)
		}
	}()
	results := call(f, args)
	if after := told(true, args...); after != before {
		t.Fatalf("arguments %s become %s", before, after)
	}
	if sharing(results, args) {
		t.Fatalf("results share memory, for %s", before)
	}
	for _, v := range results {
		if !wellFormed(v) {
			t.Fatalf("a number's form in %s, for %s", told(false, v), before)
		}
	}
	first, again := told(false, results...), told(false, call(f, arguments(seed, f.Type(), 0))...)
	if first != again {
		t.Fatalf("%s, then %s, for %s", first, again, before)
	}
}

func call(f reflect.Value, args []reflect.Value) []reflect.Value {
	if f.Type().IsVariadic() {
		return f.CallSlice(args)
	}
	return f.Call(args)
}

// arguments are the same for the same seed, but for the spare capacity of slices.
func arguments(seed int64, f reflect.Type, spare int) []reflect.Value {
	r := rand.New(rand.NewSource(seed))
	var args []reflect.Value
	for i := range f.NumIn() {
		args = append(args, made(r, f.In(i), spare, 0))
	}
	return args
}

// made is a value of type t. The spare capacity of its slices is not zeroed.
func made(r *rand.Rand, t reflect.Type, spare, depth int) reflect.Value {
	v := reflect.New(t).Elem()
	switch t.Kind() {
	case reflect.Bool:
		v.SetBool(r.Intn(2) == 0)
	case reflect.Int, reflect.Int64:
		v.SetInt(integer(r))
	case reflect.Uint32, reflect.Uint64:
		v.SetUint([]uint64{0, 0, 1, 1, 2, 3, 6, 1 << 31, math.MaxUint32}[r.Intn(9)])
	case reflect.String:
		v.SetString([]string{"", "x", "y", "0", "12", "-3", "\xff", "x + 2*y <= 12 & !(y = 0 | true)", modelText, "G (x > 1 -> F @x.y)"}[r.Intn(10)])
	case reflect.Struct:
		for i := range t.NumField() {
			v.Field(i).Set(made(r, t.Field(i).Type, spare, depth+1))
		}
		mend(r, v.Addr().Interface())
	case reflect.Slice:
		if depth > 8 || r.Intn(8) == 0 {
			break
		}
		size := r.Intn(4)
		s := reflect.MakeSlice(t, size+spare, size+spare)
		for i := range size {
			s.Index(i).Set(made(r, t.Elem(), spare, depth+1))
		}
		for i := range spare {
			s.Index(size + i).Set(made(rand.New(new(counter)), t.Elem(), 0, depth+8))
		}
		v.Set(s.Slice(0, size))
	default:
		panic("no values are made of " + t.String())
	}
	return v
}

// counter is a source of numbers that, unlike that of package rand, takes no time to
// begin with.
type counter uint64

func (c *counter) Seed(int64) {}

func (c *counter) Int63() int64 {
	*c += 0x9e3779b97f4a7c15
	return int64(*c >> 1)
}

const modelText = "var x in -3 .. 12; var y; init x = 0; proc p loc x, y; x -> y : x < 3 / x := x + 1, y := *; y -> y; end"

// mend makes most tokens, sums, trees, models, properties and automata valid, if they
// have valid parts.
func mend(r *rand.Rand, made any) {
	switch m := made.(type) {
	case *api.Mono:
		if r.Intn(16) > 0 {
			m.Num, m.Var = []string{"", "0", "12"}[r.Intn(3)], []string{"x", "y"}[r.Intn(2)]
		}
	case *lex.Token:
		ts, _, _ := lex.All("x y 0 12 true + - * = <= ! ( ) & | G")
		if r.Intn(16) > 0 {
			*m = ts[r.Intn(len(ts))]
		}
	case *api.Tree:
		if r.Intn(16) > 0 {
			mendTree(r, m)
		}
	case *api.Model:
		if r.Intn(16) > 0 {
			mendModel(r, m)
		}
	case *api.Sys:
		if r.Intn(16) > 0 {
			m.Vars = append(m.Vars, "", "")
			copy(m.Vars, given)
			mendProcs(r, m.Procs)
		}
	case *property:
		mendTree(r, (*api.Tree)(m))
		mendProperty(r, (*api.Tree)(m))
	case *api.Ltl:
		if r.Intn(16) > 0 {
			m.Kind, m.Prop = r.Intn(14), r.Intn(5)-1
		}
	case *gba.Node:
		if r.Intn(4) > 0 {
			m.Must, m.Never = m.Must[:len(m.Must)/3], m.Never[:len(m.Never)/2]
			mendNodes(r, m.Next)
		}
	case *gba.Gba:
		mendNodes(r, m.First)
		m.Sets = m.Sets[:len(m.Sets)/2]
		for i := range m.Sets {
			mendNodes(r, m.Sets[i])
		}
	case *buchi.Auto:
		mendNodes(r, m.First)
	case *scene:
		mendScene(r, m)
	}
}

// scene is a system that is mostly confined, with a state that mostly fits it.
type scene struct {
	S api.Sys
	X api.State
}

func mendScene(r *rand.Rand, c *scene) {
	c.S.Bounds, c.X.Vals = resized(c.S.Bounds, len(c.S.Vars)), resized(c.X.Vals, len(c.S.Vars))
	for v := range c.S.Vars {
		lo := r.Int63n(4) - 2
		c.S.Bounds[v] = api.Bound{Is: r.Intn(12) > 0, Lo: zint.Of(lo), Hi: zint.Of(lo + r.Int63n(3))}
		c.X.Vals[v] = zint.Of(lo + int64(r.Intn(8)/7))
	}
	c.X.Locs = resized(c.X.Locs, len(c.S.Procs))
	for i, p := range c.S.Procs {
		c.X.Locs[i] = r.Intn(max(len(p.Locs), 1))
	}
	for i := range c.S.Acts {
		if a := &c.S.Acts[i]; r.Intn(6) > 0 && len(c.X.Locs) > 0 {
			a.Proc = r.Intn(len(c.X.Locs))
			a.From, a.To = c.X.Locs[a.Proc], r.Intn(max(len(c.S.Procs[a.Proc].Locs), 1))
			a.Guard.Kind = []int{api.True, a.Guard.Kind}[r.Intn(2)]
			mendMoves(r, a.Moves, len(c.S.Vars))
		}
	}
	c.S.Init.Kind = []int{api.True, c.S.Init.Kind}[r.Intn(2)]
}

// mendMoves makes most terms small, and all V those of variables, if there are any.
func mendMoves(r *rand.Rand, ms []api.Move, vars int) {
	for i := range ms {
		ms[i].V = r.Intn(max(vars, 1))
		if r.Intn(3) > 0 {
			ms[i].T = api.Term{K: zint.Of(r.Int63n(3) - 1)}
		}
	}
}

func resized[T any](list []T, n int) []T {
	return append(list, make([]T, n)...)[:n]
}

// mendNodes makes a list one of numbers of nodes that mostly exist.
func mendNodes(r *rand.Rand, list []int) {
	for i := range list {
		list[i] = r.Intn(3)
	}
}

// given are at least as many names as there are variables of a model that is made.
var given = []string{"x", "y", "z", "p", "q", "r", "s", "t", "u", "v", "w"}

// mendModel gives names to all that has one. There are at least x and y.
func mendModel(r *rand.Rand, m *api.Model) {
	m.Decls = append(m.Decls, api.Decl{Names: []string{"", ""}})
	names := given
	for i := range m.Decls {
		d := &m.Decls[i]
		if len(d.Names) == 0 {
			d.Names = []string{""}
		}
		names = names[copy(d.Names, names):]
		d.Lo, d.Hi = "", ""
		if d.Ranged {
			d.Lo, d.Hi = "-3", "12"
		}
	}
	if len(m.Procs) == 0 {
		m.Procs = make([]api.Proc, 1)
	}
	mendProcs(r, m.Procs)
}

func mendProcs(r *rand.Rand, ps []api.Proc) {
	for i := range ps {
		ps[i].Name = given[i]
		mendProc(r, &ps[i])
	}
}

func mendProc(r *rand.Rand, p *api.Proc) {
	if len(p.Locs) == 0 {
		p.Locs = []string{""}
	}
	copy(p.Locs, given)
	for i := range p.Cmds {
		c := &p.Cmds[i]
		c.From, c.To = p.Locs[r.Intn(len(p.Locs))], p.Locs[r.Intn(len(p.Locs))]
		c.Sets = c.Sets[:min(len(c.Sets), 2)]
		for j := range c.Sets {
			s := &c.Sets[j]
			s.Var, s.Any = []string{"y", "x"}[j], len(s.E) == 0
		}
	}
}

// mendTree keeps the kids and sums of a tree that are not too many.
func mendTree(r *rand.Rand, t *api.Tree) {
	if len(t.L) > 0 && len(t.R) > 0 && (t.Kind == api.TCmp || len(t.Kids) == 0) {
		*t = api.Tree{Kind: api.TCmp, L: t.L, R: t.R, Op: r.Intn(6)}
		return
	}
	kind := []int{r.Intn(2), api.TNot, api.TAnd + r.Intn(2)}[min(len(t.Kids), 2)]
	*t = api.Tree{Kind: kind, Kids: t.Kids[:min(len(t.Kids), 2)]}
}

// property is a tree that is made as a property, not as a condition.
type property api.Tree

// mendProperty makes a condition a property, with kinds of as many kids.
func mendProperty(r *rand.Rand, t *api.Tree) {
	switch len(t.Kids) {
	case 0:
		if t.Kind != api.TCmp && r.Intn(2) == 0 {
			*t = api.Tree{Kind: api.TAt, Proc: "x", Loc: given[r.Intn(2)]}
		}
	case 1:
		t.Kind = []int{api.TNot, api.TNext, api.TAll, api.TSome}[r.Intn(4)]
	case 2:
		t.Kind = []int{api.TAnd, api.TOr, api.TImp, api.TUntil, api.TFree}[r.Intn(5)]
	}
	for i := range t.Kids {
		mendProperty(r, &t.Kids[i])
	}
}

// integer is most often one that can be a variable, an index or a kind.
func integer(r *rand.Rand) int64 {
	others := []int64{
		-2, -1, 40, 1 << 16, 1 << 20, 1<<20 + 1, math.MaxInt32, math.MaxInt32 + 1, math.MinInt32, math.MinInt32 - 1,
		math.MaxInt64, math.MinInt64,
	}
	if r.Intn(8) == 0 {
		return others[r.Intn(len(others))]
	}
	return int64(r.Intn(6))
}

// told is a text that differs where values differ, or, with spare, where the
// spare capacity of slices differs. A nil slice counts as an empty one.
func told(spare bool, vs ...reflect.Value) string {
	text := ""
	for _, v := range vs {
		switch v.Kind() {
		case reflect.Struct:
			text += "{" + told(spare, fields(v)...) + "} "
		case reflect.Slice:
			text += "[" + told(spare, elements(v)...) + "] "
			if spare {
				text += "then [" + told(spare, elements(v.Slice(v.Len(), v.Cap()))...) + "] "
			}
		default:
			text += fmt.Sprintf("%#v ", v)
		}
	}
	return text
}

func fields(v reflect.Value) []reflect.Value {
	var all []reflect.Value
	for i := range v.NumField() {
		all = append(all, v.Field(i))
	}
	return all
}

func elements(v reflect.Value) []reflect.Value {
	var all []reflect.Value
	for i := range v.Len() {
		all = append(all, v.Index(i))
	}
	return all
}

// region is the memory of a slice, up to its capacity.
type region struct{ from, to uintptr }

func regions(vs ...reflect.Value) []region {
	var all []region
	for _, v := range vs {
		switch v.Kind() {
		case reflect.Struct:
			all = append(all, regions(fields(v)...)...)
		case reflect.Slice:
			size := uintptr(v.Cap()) * v.Type().Elem().Size()
			all = append(all, region{v.Pointer(), v.Pointer() + size})
			all = append(all, regions(elements(v)...)...)
		}
	}
	return all
}

// sharing reports whether two slices of the results, or one of them and one of
// the arguments, share memory.
func sharing(results, args []reflect.Value) bool {
	mine := regions(results...)
	for i, a := range mine {
		for _, b := range append(mine[i+1:len(mine):len(mine)], regions(args...)...) {
			if a.from < b.to && b.from < a.to {
				return true
			}
		}
	}
	return false
}

// wellFormed reports whether all numbers in v have the form of results.
func wellFormed(v reflect.Value) bool {
	var parts []reflect.Value
	switch v.Kind() {
	case reflect.Struct:
		if n, ok := v.Interface().(api.Int); ok && n.Neg && len(n.Abs) == 0 {
			return false
		}
		parts = fields(v)
	case reflect.Slice:
		if n, ok := v.Interface().(api.Nat); ok && len(n) > 0 && n[len(n)-1] == 0 {
			return false
		}
		parts = elements(v)
	}
	for _, p := range parts {
		if !wellFormed(p) {
			return false
		}
	}
	return true
}
