package ltl_test

import (
	"fmt"
	"math/big"
	"math/rand"
	"slices"
	"strings"
	"testing"

	"plumbline/api"
	"plumbline/expr"
	"plumbline/logic"
	"plumbline/ltl"
	"plumbline/zint"
)

// shape is a resolved property with the numbers of its atoms, as in "(U 0 (X 1))".
func shape(f api.Ltl) string {
	if f.Kind == api.TCmp && len(f.Kids) == 0 {
		return fmt.Sprint(f.Prop)
	}
	signs := []string{"true", "false", "?", "!", "&", "|", "@", "->", "X", "G", "F", "U", "R"}
	text := signs[f.Kind]
	for _, kid := range f.Kids {
		text += " " + shape(kid)
	}
	if f.Prop != 0 {
		text += " with an atom"
	}
	return "(" + text + ")"
}

// names are the texts of atoms.
func names(atoms []api.Prop, sys api.Sys) string {
	var all []string
	for _, a := range atoms {
		switch {
		case !a.At && a.Proc == 0 && a.Loc == 0:
			all = append(all, logic.Text(a.F, sys.Vars))
		case a.At && told(a.F) == told(api.Form{}):
			all = append(all, fmt.Sprint("@", a.Proc, ".", a.Loc))
		default:
			all = append(all, "not right: "+told(a))
		}
	}
	return strings.Join(all, "; ")
}

func TestP14_1Resolve(t *testing.T) {
	twice := system()
	twice.Vars = []string{"y", "x", "y", "x", "z"}
	for _, c := range []struct {
		s           string
		sys         api.Sys
		shape, want string
	}{
		{"true", system(), "(true)", ""}, {"false", system(), "(false)", ""}, {"x = 1", system(), "0", "x - 1 = 0"}, {"@p.a", system(), "0", "@0.0"}, {"@q.c", system(), "0", "@1.1"}, {"@q.b", system(), "0", "@1.0"}, {"@p.x", system(), "0", "@0.2"},
		{"@p.a & @p.b & @q.b & @q.q", system(), "(& (& (& 0 1) 2) 3)", "@0.0; @0.1; @1.0; @1.2"}, {"@q.q U @p.a U @q.q", system(), "(U 0 (U 1 0))", "@1.2; @0.0"}, {"@p.a -> @p.b -> @p.a", system(), "(-> 0 (-> 1 0))", "@0.0; @0.1"}, {"@p.b | @q.b", system(), "(| 0 1)", "@0.1; @1.0"}, {"@p.b | @q.c", system(), "(| 0 1)", "@0.1; @1.1"},
		{"!x = 1 R X y = 2", system(), "(R (! 0) (X 1))", "x - 1 = 0; y - 2 = 0"}, {"G F x < y", system(), "(G (F 0))", "-x + y - 1 >= 0"}, {"true U false & x != 1", system(), "(& (U (true) (false)) 0)", "!(x - 1 = 0)"}, {"x >= y | x > y | x <= y | x < y | x = y | x != y", system(), "(| (| (| (| (| 0 1) 2) 3) 4) 5)", "x - y >= 0; x - y - 1 >= 0; -x + y >= 0; -x + y - 1 >= 0; x - y = 0; !(x - y = 0)"},
		// equal atoms that are written differently
		{"x + 1 = 2 & x = 1", system(), "(& 0 0)", "x - 1 = 0"}, {"x < y U y > x U y >= x + 1 U 1*x + 1 <= y", system(), "(U 0 (U 0 (U 0 0)))", "-x + y - 1 >= 0"}, {"x + y = 3 & y + x = 3 & 2 = x + y - 1", system(), "(& (& 0 0) 1)", "x + y - 3 = 0; -x - y + 3 = 0"}, {"x != 1 -> x - y != 1 - y", system(), "(-> 0 0)", "!(x - 1 = 0)"}, {"2*x - x = 7 - 6 R -0 + x = 1", system(), "(R 0 0)", "x - 1 = 0"}, {"x = x & y = y & 0 = -0", system(), "(& (& 0 0) 0)", "0 = 0"}, {"0 >= 0 | 0 = 0 | x - x <= y - y", system(), "(| (| 0 1) 0)", "0 >= 0; 0 = 0"}, {"@ p . a & @p.a", system(), "(& 0 0)", "@0.0"},
		// atoms that are not equal, though they mean the same
		{"x = 1 & !x != 1 & !x = 1", system(), "(& (& 0 (! 1)) (! 0))", "x - 1 = 0; !(x - 1 = 0)"}, {"2*x = 2 & x = 1", system(), "(& 0 1)", "2*x - 2 = 0; x - 1 = 0"}, {"x >= 1 & x > 0 & 2*x > 1", system(), "(& (& 0 0) 1)", "x - 1 >= 0; 2*x - 2 >= 0"}, {"x = 1 & 1 = x", system(), "(& 0 1)", "x - 1 = 0; -x + 1 = 0"},
		// in the order in which they occur, from left to right
		{"(y = 1 -> @p.a) U (z = 1 & !(x = 1 | @p.b)) | y = 1 & G @p.b", system(), "(| (U (-> 0 1) (& 2 (! (| 3 4)))) (& 0 (G 4)))", "y - 1 = 0; @0.0; z - 1 = 0; x - 1 = 0; @0.1"},
		// the first variable of a name counts
		{"x = 1 & y = 2 & z = 3", twice, "(& (& 0 1) 2)", "x - 1 = 0; y - 2 = 0; z - 3 = 0"},
	} {
		tree, _, e := ltl.Parse(c.s, c.sys)
		if e != api.OK {
			t.Fatal(c.s, codes[e])
		}
		f, atoms, ok := ltl.Resolve(tree, c.sys)
		expect(t, c.s, fmt.Sprint(shape(f), ok), fmt.Sprint(c.shape, true))
		expect(t, c.s, names(atoms, c.sys), c.want)
	}
	_, atoms, _ := ltl.Resolve(is("x", "1"), twice)
	expect(t, "the first variable x", fmt.Sprint(logic.Vars(atoms[0].F)), "[1]")
}

// TestP14_1ResolveUnknown: a tree that is valid, but not known.
func TestP14_1ResolveUnknown(t *testing.T) {
	known := of(api.TAnd, is("x", "1"), at("p", "a"))
	for _, tree := range []api.Tree{
		is("v", "1"), cmp(sum(plus("1", "")), api.Eq, sum(plus("", "x"), plus("0", "v"))), at("s", "a"), at("p", "s"), at("p", "d"), at("p", "c"), at("q", "a"), at("x", "a"), at("r", "a"), at("longer_name_20_bytes", "a"), cmp(many(64), api.Lt, sum(plus("", "q"))),
	} {
		for _, within := range []api.Tree{tree, of(api.TNot, tree), of(api.TImp, tree, known), of(api.TImp, known, tree), of(api.TFree, known, of(api.TAll, of(api.TOr, known, tree))), of(api.TUntil, of(api.TUntil, tree, yes()), known)} {
			f, atoms, ok := ltl.Resolve(within, system())
			if ok || told(f) != told(api.Ltl{}) || atoms != nil || !ltl.Right(within) {
				t.Errorf("%s: %v, %v, %v", told(within), f, atoms, ok)
			}
		}
	}
	if _, _, ok := ltl.Resolve(known, system()); !ok {
		t.Error("not known")
	}
	for _, sys := range []api.Sys{{}, {Vars: []string{"x"}}, {Procs: system().Procs}, {Vars: []string{"x"}, Procs: []api.Proc{proc("q", "a")}}, {Vars: []string{"x"}, Procs: []api.Proc{proc("p", "b")}}, {Vars: []string{"x"}, Procs: []api.Proc{proc("p"), proc("p", "a")}}, {Vars: []string{"y"}, Procs: system().Procs}} {
		if f, atoms, ok := ltl.Resolve(known, sys); ok || told(f) != told(api.Ltl{}) || atoms != nil {
			t.Errorf("known in %v", sys)
		}
	}
	if f, atoms, ok := ltl.Resolve(of(api.TNext, no()), api.Sys{}); !ok || shape(f) != "(X (false))" || len(atoms) > 0 {
		t.Errorf("without atoms: %v, %v, %v", f, atoms, ok)
	}
}

// resolved is what the document's words say of a valid tree that is known: its atoms
// from left to right, each once.
func resolved(t api.Tree, sys api.Sys, atoms []api.Prop) (api.Ltl, []api.Prop) {
	var atom api.Prop
	switch t.Kind {
	case api.TCmp:
		atom.F, _ = expr.Form(t, sys.Vars)
	case api.TAt:
		atom = api.Prop{At: true}
		for sys.Procs[atom.Proc].Name != t.Proc {
			atom.Proc++
		}
		for sys.Procs[atom.Proc].Locs[atom.Loc] != t.Loc {
			atom.Loc++
		}
	default:
		f := api.Ltl{Kind: t.Kind}
		for _, kid := range t.Kids {
			var k api.Ltl
			k, atoms = resolved(kid, sys, atoms)
			f.Kids = append(f.Kids, k)
		}
		return f, atoms
	}
	for i, a := range atoms {
		if told(a) == told(atom) || !a.At && !atom.At && logic.Same(a.F, atom.F) {
			return api.Ltl{Kind: api.TCmp, Prop: i}, atoms
		}
	}
	return api.Ltl{Kind: api.TCmp, Prop: len(atoms)}, append(atoms, atom)
}

func TestP14_1ResolveByRules(t *testing.T) {
	many := 0
	for _, tree := range append(trees(4000), justDeep()...) {
		f, atoms, ok := ltl.Resolve(tree, system())
		wantF, want := resolved(tree, system(), nil)
		expect(t, told(tree), fmt.Sprint(told(f), told(atoms), ok), fmt.Sprint(told(wantF), told(want), true))
		many = max(many, len(atoms))
	}
	if many < 15 {
		t.Errorf("only %d atoms", many)
	}
}

// value is what a sum is at some values.
func value(ms []api.Mono, vals []api.Int) *big.Int {
	total := new(big.Int)
	for _, m := range ms {
		n := big.NewInt(1)
		if m.Num != "" {
			n.SetString(m.Num, 10)
		}
		if m.Var != "" {
			val, _ := new(big.Int).SetString(zint.Text(vals[slices.Index(system().Vars, m.Var)]), 10)
			n.Mul(n, val)
		}
		if m.Neg {
			n.Neg(n)
		}
		total.Add(total, n)
	}
	return total
}

// means expects that the atoms of f hold in a state exactly if the tree says so.
func means(t *testing.T, tree api.Tree, f api.Ltl, atoms []api.Prop, x api.State) {
	t.Helper()
	for i, kid := range tree.Kids {
		means(t, kid, f.Kids[i], atoms, x)
	}
	if tree.Kind != api.TCmp && tree.Kind != api.TAt {
		if f.Kind != tree.Kind || len(f.Kids) != len(tree.Kids) {
			t.Errorf("kind %d is resolved to %d", tree.Kind, f.Kind)
		}
		return
	}
	a := atoms[f.Prop]
	var got, want bool
	if got = logic.Holds(a.F, x.Vals); a.At {
		got = x.Locs[a.Proc] == a.Loc
	}
	if tree.Kind == api.TAt {
		here := map[string]string{} // the location of each process, by the names
		for i, p := range slices.Backward(system().Procs[:2]) {
			here[p.Name] = p.Locs[x.Locs[i]]
		}
		want = here[tree.Proc] == tree.Loc
	} else {
		c := value(tree.L, x.Vals).Cmp(value(tree.R, x.Vals))
		want = []bool{c == 0, c != 0, c < 0, c <= 0, c > 0, c >= 0}[tree.Op]
	}
	if got != want || a.At != (tree.Kind == api.TAt) {
		t.Errorf("%s at %s: %v, not %v", ltl.Text(tree), told(x), got, want)
	}
}

func TestP14_3AtomsMeanTheirTrees(t *testing.T) {
	r := rand.New(rand.NewSource(3))
	for _, tree := range trees(3000) {
		f, atoms, ok := ltl.Resolve(tree, system())
		if !ok {
			t.Errorf("not known: %s", told(tree))
			continue
		}
		for range 4 {
			x := api.State{Locs: []int{r.Intn(3), r.Intn(3)}}
			for range system().Vars {
				n := zint.Of(int64(r.Intn(7) - 3))
				if r.Intn(6) == 0 {
					n, _ = zint.Parse("123456789012345678901234567890")
				}
				x.Vals = append(x.Vals, n)
			}
			means(t, tree, f, atoms, x)
		}
	}
}

// TestP14_4Memory: arguments stay as they are, also beyond the length of their lists,
// and results do not change with them.
func TestP14_4Memory(t *testing.T) {
	const text = "G (x + 2*y > 1 -> F @p.b) & x + 2*y > 1 U @p.b"
	sys := system()
	sys.Vars = append(sys.Vars, "spare")[:5]
	sys.Procs[0].Locs = append(sys.Procs[0].Locs, "spare")[:3]
	all := func() string {
		return told(sys) + told(sys.Vars[:6]) + told(sys.Procs[0].Locs[:4])
	}
	before := all()
	tree, _, e := ltl.Parse(text, sys)
	f, atoms, ok := ltl.Resolve(tree, sys)
	if e != api.OK || !ok {
		t.Fatal(e, ok)
	}
	other, _, _ := ltl.Parse(text, sys)
	toldTree, toldF, toldAtoms := told(tree), told(f), told(atoms)
	expect(t, "text", ltl.Text(tree), text)
	expect(t, "arguments", all(), before)
	expect(t, "tree", told(tree), toldTree)
	spare := tree
	spare.Kids = append(tree.Kids, no())[:2]
	ltl.Right(spare)
	ltl.Text(spare)
	ltl.Resolve(spare, sys)
	expect(t, "spare capacity", told(spare.Kids[:3]), told(append(tree.Kids, no())))
	overwrite(tree)
	for i := range sys.Vars {
		sys.Vars[i] = "other"
	}
	for i := range sys.Procs {
		sys.Procs[i].Name = "other"
	}
	expect(t, "f", told(f), toldF)
	expect(t, "atoms", told(atoms), toldAtoms)
	expect(t, "another tree", told(other), toldTree)
}

// overwrite changes all that a tree contains.
func overwrite(t api.Tree) {
	for _, ms := range [][]api.Mono{t.L, t.R} {
		for i := range ms {
			ms[i] = api.Mono{Var: "other"}
		}
	}
	for i := range t.Kids {
		overwrite(t.Kids[i])
		t.Kids[i] = no()
	}
}
