package rules

import (
	"math"
	"reflect"
	"slices"
	"testing"

	"plumbline/abstr"
	"plumbline/api"
	"plumbline/buchi"
	"plumbline/cegar"
	"plumbline/confine"
	"plumbline/decide"
	"plumbline/dfs"
	"plumbline/elim"
	"plumbline/expr"
	"plumbline/gba"
	"plumbline/kripke"
	"plumbline/lasso"
	"plumbline/lex"
	"plumbline/logic"
	"plumbline/ltl"
	"plumbline/model"
	"plumbline/omega"
	"plumbline/pretty"
	"plumbline/refine"
	"plumbline/rel"
	"plumbline/shadow"
	"plumbline/term"
	"plumbline/word"
	"plumbline/wp"
)

// Layers 1 and 2 have such tests beside them.

func TestP3_4RulesOfTerm(t *testing.T) {
	checkAll(t, term.Plain, term.Number, term.Var, term.Add, term.Sub, term.Scale, term.Neg,
		term.Coef, term.Without, term.Vars, term.Has, term.Put, term.PutAll, term.Move, term.Value,
		term.Content, term.Shrink, term.Cmp, term.Same, term.Name, term.Text)
}

func TestP4_4RulesOfRel(t *testing.T) {
	checkAll(t, rel.Zero, rel.Least, rel.Tight, rel.Holds, rel.Deny, rel.Put, rel.PutAll, rel.Move, rel.Vars,
		rel.Cmp, rel.Same, rel.Tidy, rel.Text)
}

func TestP5_4RulesOfLogic(t *testing.T) {
	checkAll(t, logic.Of, logic.Truth, logic.Deny, logic.All, logic.Any, logic.Compare, logic.Holds, logic.Size,
		logic.Vars, logic.Flat, logic.PutAll, logic.Move, logic.Cubes, logic.Same, logic.Text)
}

func TestP6_4RulesOfElim(t *testing.T) {
	checkAll(t, elim.Solve)
	checkBut(t, span{100, 1<<21 - 1}, elim.Back) // variables up to which values are returned
	checkBut(t, span{100, math.MaxInt64}, elim.Forth)
}

func TestP7_4RulesOfShadow(t *testing.T) {
	checkAll(t, shadow.Choose, shadow.Real, shadow.Dark, shadow.Fit)
	checkBut(t, span{math.MaxInt32, math.MaxInt64}, shadow.Pieces) // so many lists may be wanted
}

func TestP8_4RulesOfOmega(t *testing.T) {
	checkBut(t, span{100, math.MaxInt64}, omega.Decide) // values that are returned
	checkAll(t, omega.Can, func(rs []api.Rel) omega.Answer { return omega.Decide(rs, 3, 10000) })
}

func TestP9_4RulesOfDecide(t *testing.T) {
	checkBut(t, span{100, math.MaxInt64}, decide.Sat) // values that are returned
	checkAll(t, decide.Valid, decide.Follows, decide.Equal, decide.Trim, decide.Short,
		func(f api.Form) omega.Answer { return decide.Sat(f, 3, 10000) })
}

func TestP10_1RulesOfLex(t *testing.T) {
	checkAll(t, lex.All, lex.Spell, lex.Reserved, lex.Name, lex.Number)
}

func TestP11_4RulesOfExpr(t *testing.T) {
	checkAll(t, expr.ParseSum, expr.ParseCond, expr.SumText, expr.Text, expr.RightSum, expr.Right, expr.Bare, expr.Compares,
		expr.CompareText, expr.Term, expr.Form)
}

func TestP11_4RulesOfCursor(t *testing.T) {
	checkAll(t,
		func(c expr.Cursor) (lex.Token, int) { return c.At(), c.I },
		func(c expr.Cursor, text string) (bool, int) { return c.Take(text), c.I },
		func(c expr.Cursor, text string) (api.Errno, int) { return c.Want(text), c.I },
		func(c expr.Cursor) ([]api.Mono, api.Errno, int) {
			ms, e := c.Sum()
			return ms, e, c.I
		},
		func(c expr.Cursor) (api.Tree, api.Errno, int) {
			t, e := c.Compare()
			return t, e, c.I
		},
		func(c expr.Cursor) (api.Tree, api.Errno, int) {
			t, e := c.Cond()
			return t, e, c.I
		},
		func(s string, vars []string, known bool) (api.Tree, api.Pos, api.Errno) {
			return expr.Whole(s, vars, known, (*expr.Cursor).Cond)
		},
		func(s string, vars []string, known bool) ([]string, api.Pos, api.Errno) {
			return expr.Whole(s, vars, known, func(c *expr.Cursor) ([]string, api.Errno) { return c.Vars, api.OK })
		})
}

func TestP12_3RulesOfModel(t *testing.T) {
	checkAll(t, model.Parse, model.Right, model.System)
}

func TestP13_4RulesOfPretty(t *testing.T) {
	checkAll(t, pretty.Text, pretty.Place, pretty.Act, pretty.State)
}

func TestP14_4RulesOfLtl(t *testing.T) {
	checkAll(t, ltl.Parse, ltl.Right, ltl.Text, ltl.Resolve,
		func(p property) bool { return ltl.Right(api.Tree(p)) },
		func(p property) string { return ltl.Text(api.Tree(p)) },
		func(p property, s api.Sys) (api.Ltl, []api.Prop, bool) { return ltl.Resolve(api.Tree(p), s) },
		func(p property, s api.Sys) (api.Tree, api.Pos, api.Errno) { return ltl.Parse(ltl.Text(api.Tree(p)), s) })
}

func TestP15_1RulesOfWord(t *testing.T) {
	checkAll(t, word.Holds, word.Plain, word.Size, word.Same, word.Shift, word.Unroll)
}

func TestP16_4RulesOfGba(t *testing.T) {
	checkAll(t, gba.Of, gba.Takes, gba.Count,
		func(f api.Ltl, w word.Word) bool {
			g, _ := gba.Of(f)
			return gba.Takes(g, w)
		})
}

func TestP17_4RulesOfBuchi(t *testing.T) {
	checkAll(t, buchi.Of, buchi.Trim, buchi.For, buchi.Takes, buchi.Empty, buchi.Allows,
		func(g gba.Gba) buchi.Auto {
			a, _ := buchi.Of(g)
			return buchi.Trim(a)
		},
		func(f api.Ltl, w word.Word) bool {
			a, _ := buchi.For(f)
			return buchi.Takes(a, w)
		})
}

func TestP18_3RulesOfKripke(t *testing.T) {
	checkAll(t, kripke.Fits, kripke.First, kripke.Same, kripke.Can, kripke.Stuck, kripke.Leads, kripke.Go, kripke.Right,
		kripke.Letter, kripke.Spell, stepsOf,
		func(c scene, act int, y api.State) bool { return kripke.Leads(c.S, c.X, act, y) },
		func(c scene) bool { return kripke.Right(c.S, runFrom(c)) },
		func(c scene, ps []api.Prop) word.Word { return kripke.Spell(ps, runFrom(c)) })
}

// stepsOf are all things that layer 18 tells of a step, mostly of one that exists.
func stepsOf(c scene, act int, picks []api.Int) (api.State, bool, bool, bool, bool) {
	if act > 0 {
		act %= len(c.S.Acts) + 1
	}
	y, ok := kripke.Go(c.S, c.X, act, picks)
	return y, ok, kripke.Can(c.S, c.X, act), kripke.Stuck(c.S, c.X), kripke.Leads(c.S, c.X, act, y)
}

// runFrom is a run of some steps, which need not be valid.
func runFrom(c scene) api.Run {
	var r api.Run
	x := c.X
	for act := -1; act < len(c.S.Acts); act++ {
		if y, ok := kripke.Go(c.S, x, act, nil); ok {
			r.Stem, r.Cycle, r.Acts = append(r.Stem, x), []api.State{y}, append(r.Acts, act)
			x = y
		}
	}
	r.Acts = append(r.Acts, -1)
	return r
}

func TestP19_4RulesOfConfine(t *testing.T) {
	checkAll(t, confine.Count, confine.State, confine.Number, confine.Firsts, confine.Edges, confine.Search, stepsIn,
		func(c scene, ps []api.Prop, a buchi.Auto, fuel int) confine.Answer {
			return confine.Search(c.S, ps, a, fuel)
		},
		func(c scene, ps []api.Prop, a buchi.Auto) confine.Answer {
			return confine.Search(c.S, ps, a, 10000)
		},
		func(c scene, ps []api.Prop, f api.Ltl) confine.Answer {
			a, _ := buchi.For(f)
			return confine.Search(c.S, ps, a, 10000)
		})
}

// stepsIn are all things that layer 19 tells of a system and a state.
func stepsIn(c scene, n int) (api.State, bool, int, []api.State, []confine.Edge) {
	x, ok := confine.State(c.S, n)
	number, _ := confine.Number(c.S, c.X)
	return x, ok, number, confine.Firsts(c.S), confine.Edges(c.S, c.X)
}

func TestP20_4RulesOfWp(t *testing.T) {
	checkAll(t, wp.Range, wp.Start, wp.Can, wp.Stuck, wp.Step, wp.Pre, wp.Places, formsOf)
}

// formsOf are all formulas of a step, mostly of one that can start, and where it leads.
func formsOf(c scene, act, k int, f api.Form) ([]api.Form, []int, bool) {
	if act > 0 {
		act %= len(c.S.Acts) + 1
	}
	locs, ok := wp.Places(c.S, c.X.Locs, act)
	return []api.Form{wp.Range(c.S, k), wp.Start(c.S, k), wp.Can(c.S, act, k), wp.Stuck(c.S, c.X.Locs, k),
		wp.Step(c.S, c.X.Locs, act, k), wp.Pre(c.S, act, f)}, locs, ok
}

func TestP21_4RulesOfAbstr(t *testing.T) {
	checkAll(t, abstr.Of, abstr.Same, abstr.Cmp, abstr.Cube, abstr.Base, abstr.Gather, abstr.Letter, abstr.Starts,
		abstr.Steps, abstractOf,
		func(c scene, ps []api.Rel, bits []bool, fuel int) ([]abstr.Step, int, bool) {
			return abstr.Steps(c.S, ps, abstr.Abs{Locs: c.X.Locs, Bits: bits}, 5000+fuel%1000)
		},
		func(f, g api.Form, locs []int, bits []bool) ([]bool, bool) {
			ps := abstr.Gather(nil, logic.All(logic.Flat(f), logic.Flat(g)))
			return abstr.Letter([]api.Prop{{F: f}, {F: g}}, ps, abstr.Abs{Locs: locs, Bits: slices.Concat(bits, make([]bool, len(ps)))})
		})
}

// abstractOf are the abstract initial states and the steps of the abstract state of a
// state, with and without predicates.
func abstractOf(c scene, ps []api.Rel) ([]abstr.Abs, []abstr.Step, []abstr.Step, bool) {
	all, _, _ := abstr.Starts(c.S, ps, 20000)
	some, _, ok := abstr.Steps(c.S, nil, abstr.Of(nil, c.X), 5000)
	more, _, _ := abstr.Steps(c.S, ps, abstr.Of(ps, c.X), 20000)
	return all, some, more, ok
}

func TestP22_4RulesOfDfs(t *testing.T) {
	checkAll(t, dfs.Search, dfs.Right, dfs.Word, lassoOf,
		func(c scene, props []api.Prop, ps []api.Rel, a buchi.Auto, fuel int) dfs.Answer {
			return dfs.Search(c.S, props, ps, a, 20000+fuel%1000)
		},
		func(c scene, props []api.Prop, ps []api.Rel, a buchi.Auto) (bool, bool, word.Word, bool) {
			l := lassoOf(c, a, len(ps) > 0).Lasso
			right, known := dfs.Right(c.S, nil, nil, a, l, 5000)
			w, ok := dfs.Word(props[:len(props)/2], ps, l)
			return right, known, w, ok
		},
		func(c scene, a buchi.Auto, l dfs.Lasso) (bool, bool) { return dfs.Right(c.S, nil, nil, a, l, 5000) })
}

// lassoOf is an answer about locations only, also for an automaton that accepts all words.
func lassoOf(c scene, a buchi.Auto, all bool) dfs.Answer {
	if all {
		a = buchi.Auto{Nodes: []gba.Node{{Next: []int{0}}}, First: []int{0}, Good: []bool{true}}
	}
	return dfs.Search(c.S, nil, nil, a, 20000)
}

func TestP23_4RulesOfLasso(t *testing.T) {
	checkAll(t, lasso.Says, lasso.Check, runOf,
		func(c scene, ps []api.Rel, l dfs.Lasso, rounds int) lasso.Answer {
			return lasso.Check(c.S, ps, l, rounds, 10000)
		},
		func(c scene, ps []api.Rel, p lasso.Path) api.Form { return lasso.Says(c.S, ps, p) })
}

// runOf is an answer about a lasso of locations only.
func runOf(c scene, a buchi.Auto, all bool, rounds int) lasso.Answer {
	return lasso.Check(c.S, nil, lassoOf(c, a, all).Lasso, rounds, 50000)
}

func TestP24_4RulesOfRefine(t *testing.T) {
	checkAll(t, refine.Conditions, refine.New, refinedOf,
		func(c scene, ps []api.Rel, p lasso.Path) ([]api.Form, []api.Rel, bool) {
			all, more := refine.New(c.S, ps, p)
			return refine.Conditions(c.S, ps, p), all, more
		})
}

// refinedOf is what layer 24 derives from a path of some steps.
func refinedOf(c scene, ps []api.Rel) ([]api.Form, []api.Rel, bool) {
	r := runFrom(c)
	p := lasso.Path{Acts: r.Acts}
	for _, x := range slices.Concat(r.Stem, r.Cycle) {
		p.States = append(p.States, abstr.Of(ps, x))
	}
	all, more := refine.New(c.S, ps, p)
	return refine.Conditions(c.S, ps, p), all, more
}

func TestP25_1RulesOfCegar(t *testing.T) {
	checkAll(t, cegar.Check, verdictOf,
		func(c scene, f api.Ltl, props []api.Prop, fuel int) cegar.Result {
			return cegar.Check(c.S, f, props, fuel)
		})
}

// verdictOf is a verdict about a system whose variables have bounds or not.
func verdictOf(c scene, f api.Ltl, props []api.Prop, free bool, fuel int) cegar.Result {
	if free {
		c.S.Bounds = nil
	}
	return cegar.Check(c.S, f, props, 3000+fuel%1000)
}

// TestUsefulScenes: the systems and states that are made for these checks have states,
// steps and runs often enough, also abstract ones, lassos, and verdicts of all kinds.
func TestUsefulScenes(t *testing.T) {
	steps, edges, firsts, found := 0, 0, 0, 0
	abstracts, targets, lassos, real := 0, 0, 0, 0
	refined, verdicts := 0, map[string]int{}
	for seed := range int64(rounds) {
		if reflect.ValueOf(stepsOf).Call(arguments(seed, reflect.TypeOf(stepsOf), 2))[1].Bool() {
			steps++
		}
		results := reflect.ValueOf(stepsIn).Call(arguments(seed, reflect.TypeOf(stepsIn), 2))
		firsts += results[3].Len()
		edges += results[4].Len()
		search := func(c scene, ps []api.Prop, a buchi.Auto) int { return confine.Search(c.S, ps, a, 10000).State }
		if reflect.ValueOf(search).Call(arguments(seed, reflect.TypeOf(search), 2))[0].Int() == confine.Found {
			found++
		}
		results = reflect.ValueOf(abstractOf).Call(arguments(seed, reflect.TypeOf(abstractOf), 2))
		abstracts += results[0].Len()
		targets += results[2].Len()
		if answer := reflect.ValueOf(lassoOf).Call(arguments(seed, reflect.TypeOf(lassoOf), 2))[0]; answer.Interface().(dfs.Answer).State == dfs.Found {
			lassos++
		}
		if answer := reflect.ValueOf(runOf).Call(arguments(seed, reflect.TypeOf(runOf), 2))[0]; answer.Interface().(lasso.Answer).State == lasso.Real {
			real++
		}
		if reflect.ValueOf(refinedOf).Call(arguments(seed, reflect.TypeOf(refinedOf), 2))[0].Len() > 1 {
			refined++
		}
		verdict := reflect.ValueOf(verdictOf).Call(arguments(seed, reflect.TypeOf(verdictOf), 2))[0].Interface().(cegar.Result)
		verdicts[verdict.Why]++
		verdicts[[]string{"", "holds", "violated", "unknown"}[verdict.Verdict]]++
	}
	if refined < rounds/10 || verdicts["abstraction"] < rounds/20 || verdicts["all states"] < rounds/20 || verdicts["holds"] < rounds/10 || verdicts["violated"] < rounds/20 {
		t.Errorf("only %d paths, and the verdicts %v", refined, verdicts)
	}
	if lassos < rounds/10 || real < rounds/20 {
		t.Errorf("only %d lassos, and %d of them with runs", lassos, real)
	}
	if abstracts < rounds/2 || targets < rounds/2 {
		t.Errorf("only %d abstract initial states, and %d abstract steps", abstracts, targets)
	}
	if steps < rounds/20 || edges < rounds/2 || firsts < rounds || found < rounds/100 {
		t.Errorf("only %d steps, %d edges, %d initial states, and %d runs", steps, edges, firsts, found)
	}
}

// TestKnownProperties: the properties that are made for these checks are known often
// enough.
func TestKnownProperties(t *testing.T) {
	known, atoms := 0, 0
	resolve := func(p property, s api.Sys) (api.Ltl, []api.Prop, bool) { return ltl.Resolve(api.Tree(p), s) }
	for seed := range int64(rounds) {
		f := reflect.ValueOf(resolve)
		results := f.Call(arguments(seed, f.Type(), 2))
		atoms += results[1].Len()
		if results[2].Bool() {
			known++
		}
	}
	if known < rounds/4 || atoms < rounds/4 {
		t.Errorf("only %d of %d properties are known, with %d atoms", known, rounds, atoms)
	}
}

// TestUsefulAutomata: the automata that are made for these checks accept words, and have
// edges, often enough.
func TestUsefulAutomata(t *testing.T) {
	general, single, edges := 0, 0, 0
	for seed := range int64(rounds) {
		args := arguments(seed, reflect.TypeOf(gba.Takes), 2)
		if reflect.ValueOf(gba.Takes).Call(args)[0].Bool() {
			general++
		}
		_, n := gba.Count(args[0].Interface().(gba.Gba))
		edges += n
		if reflect.ValueOf(buchi.Takes).Call(arguments(seed, reflect.TypeOf(buchi.Takes), 2))[0].Bool() {
			single++
		}
	}
	if general < rounds/30 || single < rounds/100 || edges < rounds/2 {
		t.Errorf("only %d and %d of %d automata accept a word, with %d edges", general, single, rounds, edges)
	}
}

// TestValidModels: the models that are made for these checks are valid often enough.
func TestValidModels(t *testing.T) {
	valid, acts := 0, 0
	for seed := range int64(rounds) {
		s, ok := model.System(arguments(seed, reflect.TypeOf(model.Right), 2)[0].Interface().(api.Model))
		acts += len(s.Acts)
		if ok {
			valid++
		}
	}
	if valid < rounds/8 || acts < rounds/4 {
		t.Errorf("only %d of %d models are valid, with %d acts", valid, rounds, acts)
	}
}
