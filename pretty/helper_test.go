package pretty_test

import (
	"fmt"
	"math/rand"
	"reflect"
	"strings"
	"testing"

	"plumbline/api"
	"plumbline/expr"
	"plumbline/lex"
	"plumbline/model"
)

// told tells all of a value. A nil list counts as an empty one.
func told(v any) string { return tell(reflect.ValueOf(v)) }

func tell(v reflect.Value) string {
	var parts []string
	switch v.Kind() {
	case reflect.Struct:
		for i := range v.NumField() {
			parts = append(parts, tell(v.Field(i)))
		}
		return "{" + strings.Join(parts, " ") + "}"
	case reflect.Slice:
		for i := range v.Len() {
			parts = append(parts, tell(v.Index(i)))
		}
		return "[" + strings.Join(parts, " ") + "]"
	}
	return fmt.Sprintf("%#v", v)
}

func expect(t *testing.T, what, got, want string) {
	t.Helper()
	if got != want {
		t.Errorf("%.600s:\n got %.1200s\nwant %.1200s", what, got, want)
	}
}

// parsed is the model with a text.
func parsed(t *testing.T, text string) api.Model {
	t.Helper()
	m, at, e := model.Parse(text)
	if e != api.OK {
		t.Fatalf("error %d at %v of %s", e, at, text)
	}
	return m
}

// sum is a sum by its text.
func sum(text string) []api.Mono {
	ms, _, e := expr.ParseSum(text)
	if e != api.OK {
		panic(text)
	}
	return ms
}

// cond is a condition by its text.
func cond(text string) api.Tree {
	c, _, e := expr.ParseCond(text)
	if e != api.OK {
		panic(text)
	}
	return c
}

func one[T any](r *rand.Rand, all ...T) T { return all[r.Intn(len(all))] }

// some are a few of these, in another order.
func some(r *rand.Rand, least int, all ...string) []string {
	var names []string
	for _, i := range r.Perm(len(all))[:least+r.Intn(min(len(all)-least, 3)+1)] {
		names = append(names, all[i])
	}
	return names
}

var (
	sums  = []string{"x", "-x", "0", "-0", "2*y - 1*x", "x + y - 3", "-10*y + 7 - 0"}
	conds = []string{"false", "x < 1", "-x != 2*y - 3", "x = 1 & y = 2", "!(x >= 0 | true)", "x = 0 | y > 0 & !!x <= 1", "(x = 0 | y = 1) & (x = 1 & y = 0)", "!true"}
)

// line is a command as the chapter says how it is printed.
func line(r *rand.Rand, locs []string) string {
	text := "  " + one(r, locs...) + " -> " + one(r, locs...)
	if r.Intn(2) == 0 {
		text += " : " + one(r, conds...)
	}
	for i, v := range some(r, 0, "x", "y", "z") {
		text += []string{" / ", ", "}[min(i, 1)] + v + " := " + one(r, append([]string{"*", "*"}, sums...)...)
	}
	return text + ";\n"
}

// printed is a valid model as the chapter says how it is printed.
func printed(r *rand.Rand) string {
	text := one(r, "var x, y, z", "var z, p, x, y", "var x;\nvar z, y", "var x in 0 .. 3;\nvar y, z in -3 .. -0;\nvar a", "var z in 7 .. 7;\nvar x;\nvar a, y")
	text += one(r, "", " in -123456789012345678901234567890 .. 5", " in -0 .. 0") + ";\ninit " + one(r, append(conds, "true")...) + ";\n"
	for _, name := range some(r, 1, "p", "q", "x", "longer_name_20_bytes") {
		locs := some(r, 1, "a", "b", "c", "p", "x")
		text += "proc " + name + "\n  loc " + strings.Join(locs, ", ") + ";\n"
		for range r.Intn(5) {
			text += line(r, locs)
		}
		text += "end\n"
	}
	return text
}

// texts are those of valid models.
func texts(n int) []string {
	r := rand.New(rand.NewSource(13))
	var all []string
	for range n {
		all = append(all, printed(r))
	}
	return all
}

// loose is another text of the same model.
func loose(r *rand.Rand, text string) string {
	text = strings.ReplaceAll(text, "init ", "init (")
	text = strings.Replace(text, ";\nproc", ");\nproc", 1)
	lines := strings.Split(text, "\n")
	for i, l := range lines {
		if strings.Contains(l, "->") && !strings.Contains(l, " : ") && r.Intn(2) == 0 {
			at := strings.IndexAny(l+";", "/;")
			lines[i] = l[:at] + " : " + one(r, "true", "((true))") + l[at:]
		}
	}
	ts, _, e := lex.All(strings.Join(lines, "\n"))
	if e != api.OK {
		panic(text)
	}
	text = ""
	for _, t := range ts {
		text += t.Text + one(r, " ", "  ", "\n", "\t", "# ; ?\n")
	}
	return text
}
