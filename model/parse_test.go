package model_test

import (
	"fmt"
	"math/rand"
	"slices"
	"strings"
	"testing"

	"plumbline/api"
	"plumbline/lex"
	"plumbline/model"
)

const (
	sixty = "123456789012345678901234567890123456789012345678901234567890"
	tail  = " init true; proc p loc a; end"
	head  = "init true; proc p loc a"
)

// with is the least model with declarations.
func with(ds ...api.Decl) api.Model {
	m := least()
	m.Decls = ds
	return m
}

// doing is the model with x, y and a process with the locations a and b that has commands.
func doing(cmds ...api.Cmd) api.Model {
	return api.Model{Decls: []api.Decl{decl("x y")}, Procs: []api.Proc{proc("p", "a b", cmds...)}}
}

func TestP12_1Parse(t *testing.T) {
	x, lt := sum(plus("", "x")), cmp(sum(plus("", "x")), api.Lt, sum(plus("3", "")))
	other := least()
	other.Init = of(api.TOr, is("x", "1"), of(api.TNot, of(api.TAnd, lt, of(api.TFalse))))
	other.Decls = []api.Decl{decl("x")}
	for _, c := range []struct {
		s    string
		want api.Model
	}{
		{"init true; proc p loc a; end", least()}, {"init\ntrue\n;proc p#\nloc a;end # end", least()}, {"init ((true)); proc p loc a; end", least()},
		{"var x; init x=1|!(x<3&false); proc p loc a; end", other},
		{"var x;" + tail, with(decl("x"))}, {"var x, y,z ;" + tail, with(decl("x y z"))}, {"var x; var y, z; var u;" + tail, with(decl("x"), decl("y z"), decl("u"))},
		{"var x in 0 .. 3;" + tail, with(decl("x", "0", "3"))}, {"var x, y in 0..3; var z; var u in 7..7;" + tail, with(decl("x y", "0", "3"), decl("z"), decl("u", "7", "7"))},
		{"init true; proc p loc a, b,c ; end", api.Model{Procs: []api.Proc{proc("p", "a b c")}}},
		{"init false; proc p loc a; end proc q loc b; end proc r loc a, c; end", api.Model{Init: of(api.TFalse), Procs: []api.Proc{proc("p", "a"), proc("q", "b"), proc("r", "a c")}}},
		{"var x, y; init true; proc p loc a, b; a -> b; b->a;a->a; end", doing(cmd("a", "b", of(0)), cmd("b", "a", of(0)), cmd("a", "a", of(0)))},
		{"var x, y; init true; proc p loc a, b; a -> b : x = 1; a -> a : true; b -> b : false; end", doing(cmd("a", "b", is("x", "1")), cmd("a", "a", of(0)), cmd("b", "b", of(api.TFalse)))},
		{"var x, y; init true; proc p loc a, b; a -> b / x := *; a -> a : x < 3 / x := -y - 2*x, y := 7; end", doing(cmd("a", "b", of(0), free("x")), cmd("a", "a", lt, set("x", minus("", "y"), minus("2", "x")), set("y", plus("7", ""))))},
		{"var x, y; init true; proc p loc a, b; a -> b : true / y := *, x:=*; a -> b / y := x; end", doing(cmd("a", "b", of(0), free("y"), free("x")), cmd("a", "b", of(0), set("y", x...)))},
		{"var x, y; init true; proc p loc a, b; b -> b : x < 3 / y := 0 + x; end", doing(cmd("b", "b", lt, set("y", plus("0", ""), plus("", "x"))))},
	} {
		expect(t, c.s, read(c.s), told(c.want))
	}
}

// TestP12_1ParseSorts: names of one sort do not exclude those of another.
func TestP12_1ParseSorts(t *testing.T) {
	same := api.Model{Decls: []api.Decl{decl("p q")}, Init: is("p", "1"), Procs: []api.Proc{
		proc("p", "p q", cmd("p", "q", is("q", "2"), set("p", plus("", "q")), free("q"))), proc("q", "q p r", cmd("r", "p", of(0))),
	}}
	expect(t, "the same names", read("var p, q; init p = 1; proc p loc p, q; p -> q : q = 2 / p := q, q := *; end proc q loc q, p, r; r -> p; end"), told(same))
	for _, c := range []struct{ s, want string }{
		{"var x, x;" + tail, "ErrSame at 1:8"}, {"var x; var y, x;" + tail, "ErrSame at 1:15"}, {"var x, y, z, y, x;" + tail, "ErrSame at 1:14"}, {"var p, a;" + tail, told(with(decl("p a")))},
		{head + "; end proc p loc b; end", "ErrSame at 1:35"}, {head + "; end proc q loc a; end proc q loc a; end", "ErrSame at 1:53"}, {head + "; end\nproc a loc p; end proc p loc", "ErrSame at 2:24"},
		{head + ", a; end", "ErrSame at 1:26"}, {head + ", b, c, b; end", "ErrSame at 1:32"}, {head + "; end proc q loc b, b; end", "ErrSame at 1:44"},
		// a location of another process, a process and a variable are no locations
		{"var x; init true; proc p loc a; end proc q loc b; b -> a; end", "ErrName at 1:56"}, {"var x; init true; proc p loc a; p -> a; end", "ErrName at 1:33"}, {"var x; init true; proc p loc a; a -> x; end", "ErrName at 1:38"}, {"init true; proc p loc a; end proc q loc b; a -> b; end", "ErrName at 1:44"},
		// a process and a location are no variables
		{"init p = 1; proc p loc a; end", "ErrName at 1:6"}, {"var x; init true; proc p loc a; a -> a : x = a; end", "ErrName at 1:46"}, {"var x; init true; proc p loc a; a -> a / a := 1; end", "ErrName at 1:42"}, {"var x; init true; proc p loc a; a -> a / x := 2*p; end", "ErrName at 1:49"},
	} {
		expect(t, c.s, read(c.s), c.want)
	}
}

func TestP12_1ParseErrors(t *testing.T) {
	for _, c := range []struct{ s, want string }{
		{"", "ErrWant at 1:1"}, {" # c", "ErrWant at 1:5"}, {"x", "ErrWant at 1:1"}, {"proc", "ErrWant at 1:1"}, {"end", "ErrWant at 1:1"}, {"true", "ErrWant at 1:1"}, {"true; proc p loc a; end", "ErrWant at 1:1"},
		{"var", "ErrWant at 1:4"}, {"var ;", "ErrWant at 1:5"}, {"var 1", "ErrWant at 1:5"}, {"var X;", "ErrWant at 1:5"}, {"var x" + tail, "ErrWant at 1:7"}, {"var x,;", "ErrWant at 1:7"}, {"var x y;", "ErrWant at 1:7"}, {"var x;;", "ErrWant at 1:7"}, {"var x; y;", "ErrWant at 1:8"}, {"var x : 1;", "ErrWant at 1:7"},
		{"var in;", "ErrWant at 1:5"}, {"var true;", "ErrWant at 1:5"}, {"var x, end;", "ErrWant at 1:8"}, {"var init;", "ErrWant at 1:5"}, {"var var;", "ErrWant at 1:5"}, {"var proc;", "ErrWant at 1:5"}, {"var loc;", "ErrWant at 1:5"}, {"var false;", "ErrWant at 1:5"},
		{"var x in;", "ErrWant at 1:9"}, {"var x in 0;", "ErrWant at 1:11"}, {"var x in 0 ..;", "ErrWant at 1:14"}, {"var x in 0 . 3;", "ErrWant at 1:12"}, {"var x in 0 ... 3;", "ErrWant at 1:14"}, {"var x in 0 .. 3" + tail, "ErrWant at 1:17"}, {"var x in .. 3;", "ErrWant at 1:10"}, {"var x in y .. 3;", "ErrWant at 1:10"}, {"var x in 0 .. y;", "ErrWant at 1:15"}, {"var x in 0 .. 3, y;", "ErrWant at 1:16"},
		{"var x in 0 .. 3 in 0 .. 3;", "ErrWant at 1:17"}, {"var x in +1 .. 3;", "ErrWant at 1:10"}, {"var x in 1 + 1 .. 3;", "ErrWant at 1:12"}, {"var x in --1 .. 3;", "ErrWant at 1:11"}, {"var x in 0 .. --3;", "ErrWant at 1:16"}, {"var x in 0 .. -;", "ErrWant at 1:16"}, {"var x in - .. 3;", "ErrWant at 1:12"}, {"var x in 0 3;", "ErrWant at 1:12"}, {"var x in 0 - 3;", "ErrWant at 1:12"},
		{"init", "ErrWant at 1:5"}, {"init;", "ErrWant at 1:5"}, {"init true", "ErrWant at 1:10"}, {"init true proc", "ErrWant at 1:11"}, {"init true;", "ErrWant at 1:11"}, {"init true;;", "ErrWant at 1:11"}, {"init true; var x;", "ErrWant at 1:12"}, {"init true; init true;", "ErrWant at 1:12"}, {"init true; end", "ErrWant at 1:12"}, {"init 1 = ; proc p loc a; end", "ErrWant at 1:10"}, {"init (true; proc p loc a; end", "ErrWant at 1:11"}, {"init G true; proc p loc a; end", "ErrWant at 1:6"},
		{"init true; proc", "ErrWant at 1:16"}, {"init true; proc loc", "ErrWant at 1:17"}, {"init true; proc p", "ErrWant at 1:18"}, {"init true; proc p; loc a; end", "ErrWant at 1:18"}, {"init true; proc p loc", "ErrWant at 1:22"}, {"init true; proc p loc ;", "ErrWant at 1:23"}, {"init true; proc p loc end", "ErrWant at 1:23"}, {"init true; proc 7 loc", "ErrWant at 1:17"}, {"init true; proc p, q loc a; end", "ErrWant at 1:18"},
		{head, "ErrWant at 1:24"}, {head + " end", "ErrWant at 1:25"}, {head + ",; end", "ErrWant at 1:25"}, {head + " b; end", "ErrWant at 1:25"}, {head + ";", "ErrWant at 1:25"}, {head + "; end end", "ErrWant at 1:30"}, {head + "; end;", "ErrWant at 1:29"}, {head + "; end x", "ErrWant at 1:30"}, {head + "; end init", "ErrWant at 1:30"}, {head + "; end var x;", "ErrWant at 1:30"}, {head + "; proc q", "ErrWant at 1:26"}, {head + "; loc b; end", "ErrWant at 1:26"}, {head + "; end\n\n true", "ErrWant at 3:2"}, {head + "; end proc", "ErrWant at 1:34"},
		{head + "; a", "ErrWant at 1:27"}, {head + "; a a;", "ErrWant at 1:28"}, {head + "; a ->", "ErrWant at 1:30"}, {head + "; a -> ;", "ErrWant at 1:31"}, {head + "; a - > a;", "ErrWant at 1:28"}, {head + "; a -> a end", "ErrWant at 1:33"}, {head + "; a -> a a;", "ErrWant at 1:33"}, {head + "; a -> a", "ErrWant at 1:32"}, {head + "; a -> a, a;", "ErrWant at 1:32"}, {head + "; a -> end", "ErrWant at 1:31"}, {head + "; 1 -> a;", "ErrWant at 1:26"}, {head + "; -> a;", "ErrWant at 1:26"}, {head + "; ;", "ErrWant at 1:26"}, {head + "; a -> a;; end", "ErrWant at 1:33"}, {head + "; X -> a;", "ErrWant at 1:26"},
		{head + "; a -> a :;", "ErrWant at 1:34"}, {head + "; a -> a : / x := 1;", "ErrWant at 1:35"}, {head + "; a -> a : true : true;", "ErrWant at 1:40"}, {head + "; a -> a : true true;", "ErrWant at 1:40"}, {head + "; a -> a : true) ;", "ErrWant at 1:39"}, {head + "; a -> a : 1;", "ErrWant at 1:36"}, {head + "; a -> a : true", "ErrWant at 1:39"}, {head + "; a -> a : true & ;", "ErrWant at 1:42"}, {head + "; a -> a : true end", "ErrWant at 1:40"}, {head + "; a -> a := 1;", "ErrWant at 1:33"},
	} {
		expect(t, c.s, read(c.s), c.want)
	}
}

func TestP12_1ParseAssignments(t *testing.T) {
	const start = "var x, y; init true; proc p loc a; a -> a / " // 44 bytes
	for _, c := range []struct{ s, want string }{
		{";", "ErrWant at 1:45"}, {"x", "ErrWant at 1:46"}, {"x;", "ErrWant at 1:46"}, {"x = 1;", "ErrWant at 1:47"}, {"x : = 1;", "ErrWant at 1:47"}, {"x :=", "ErrWant at 1:49"}, {"x := ;", "ErrWant at 1:50"}, {"x := true;", "ErrWant at 1:50"}, {"x := x < 1;", "ErrWant at 1:52"}, {"x := (1);", "ErrWant at 1:50"},
		{"x := * 2;", "ErrWant at 1:52"}, {"x := **;", "ErrWant at 1:51"}, {"x := *, ;", "ErrWant at 1:53"}, {"x := -*;", "ErrWant at 1:51"}, {"x := 2*;", "ErrWant at 1:52"}, {"x := 2 * *;", "ErrWant at 1:54"}, {"x := x * 2;", "ErrWant at 1:52"}, {"x := 1 + *;", "ErrWant at 1:54"}, {"x := *x;", "ErrWant at 1:51"},
		{"x := 1 y := 2;", "ErrWant at 1:52"}, {"x := 1 / y := 2;", "ErrWant at 1:52"}, {"x := 1 : true;", "ErrWant at 1:52"}, {"x := 1", "ErrWant at 1:51"}, {"x := 1 end", "ErrWant at 1:52"}, {"2 := x;", "ErrWant at 1:45"}, {"in := x;", "ErrWant at 1:45"}, {"* := x;", "ErrWant at 1:45"}, {"x, y := 1;", "ErrWant at 1:46"}, {"x := y := 1;", "ErrWant at 1:52"},
		{"z := 1;", "ErrName at 1:45"}, {"x := z;", "ErrName at 1:50"}, {"x := y - z;", "ErrName at 1:54"}, {"x := 1, z := 2;", "ErrName at 1:53"}, {"x := 3 * z;", "ErrName at 1:54"}, {"x := *, y := z;", "ErrName at 1:58"},
		{"x := 1, x := 2;", "ErrSame at 1:53"}, {"x := *, x := *;", "ErrSame at 1:53"}, {"x := 1, y := *, x := 2;", "ErrSame at 1:61"}, {"x := x, y := x, y := x;", "ErrSame at 1:61"}, {"x := 1, x", "ErrSame at 1:53"}, {"x := y, z := 1, x := 1;", "ErrName at 1:53"}, {"x := z, x := 1;", "ErrName at 1:50"},
	} {
		expect(t, c.s, read(start+c.s), c.want)
	}
	// another command can assign it again
	want := doing(cmd("a", "b", of(0), free("x")), cmd("a", "b", of(0), set("x", plus("1", ""))))
	expect(t, "again", read("var x, y; init true; proc p loc a, b; a -> b / x := *; a -> b / x := 1; end"), told(want))
}

// TestP12_1ParseNames: of names in conditions.
func TestP12_1ParseNames(t *testing.T) {
	for _, c := range []struct{ s, want string }{
		{"init x = 1; proc p loc a; end", "ErrName at 1:6"}, {"var x; init x = y; proc p loc a; end", "ErrName at 1:17"}, {"var x; init x = 1 & (true | 2*y < 3);", "ErrName at 1:31"}, {"var x; init !x = 1 & y = 2 | z = 3", "ErrName at 1:22"}, {"var x; var y; init x = y & z = 2", "ErrName at 1:28"},
		{"var x; init true; proc p loc a; a -> a : y = 1; end", "ErrName at 1:42"}, {"var x; init true; proc p loc a; a -> a : x = 1 | z > 1 / y := 1; end", "ErrName at 1:50"}, {"var x; init true; proc p loc a; b -> c : y = 1; end", "ErrName at 1:33"}, {"var x; init true; proc p loc a; a -> c : y = 1; end", "ErrName at 1:38"},
		{"var xx; init x = 1;", "ErrName at 1:14"}, {"var x in 0 .. 3; init y = 1;", "ErrName at 1:23"},
	} {
		expect(t, c.s, read(c.s), c.want)
	}
}

func TestP12_1ParseIntegers(t *testing.T) {
	nines := strings.Repeat("9", 60)
	for _, c := range []struct{ text, lo, hi string }{
		{"0 .. 0", "0", "0"}, {"-0 .. 0", "-0", "0"}, {"0 .. -0", "0", "-0"}, {"-0..-0", "-0", "-0"}, {"- 0 .. - 0", "-0", "-0"}, {"7 .. 7", "7", "7"}, {"-7 .. -7", "-7", "-7"}, {"-8 .. -7", "-8", "-7"}, {"-7 .. 3", "-7", "3"}, {"-\n7 #\n.. -\t 3", "-7", "-3"}, {"9 .. 10", "9", "10"}, {"-10 .. -9", "-10", "-9"},
		{"-" + nines + " .. " + nines, "-" + nines, nines}, {sixty + " .. " + sixty, sixty, sixty}, {sixty + " .. " + nines, sixty, nines}, {"-" + nines + " .. -" + sixty, "-" + nines, "-" + sixty}, {"4294967296 .. 4294967297", "4294967296", "4294967297"},
	} {
		expect(t, c.text, read("var x in "+c.text+";"+tail), told(with(decl("x", c.lo, c.hi))))
	}
	for _, c := range []struct{ text, want string }{
		{"3 .. 2; ...", "ErrRange at 1:15"}, {"3 .. 2", "ErrRange at 1:15"}, {"3 .. 2 .. 1", "ErrRange at 1:15"}, {"1 .. 0;", "ErrRange at 1:15"}, {"1 .. -0;", "ErrRange at 1:16"}, {"0 .. -1;", "ErrRange at 1:16"}, {"-0 .. -1;", "ErrRange at 1:17"}, {"1 .. -  1;", "ErrRange at 1:18"}, {"-1 ..\n-\n 2;", "ErrRange at 3:2"}, {"10 .. 9;", "ErrRange at 1:16"}, {"-9 .. -10;", "ErrRange at 1:17"},
		{nines + " .. " + sixty + ";", "ErrRange at 1:74"}, {"-" + sixty + " .. -" + nines + ";", "ErrRange at 1:76"}, {"4294967297 .. 4294967296;", "ErrRange at 1:24"}, {"3 .. y", "ErrWant at 1:15"}, {"3 .. -", "ErrWant at 1:16"},
		{"0 .. " + nines + "9;", "ErrLong at 1:15"}, {"00 .. 1;", "ErrForm at 1:10"}, {"0 .. -01;", "ErrForm at 1:16"}, {"3 .. 2; ?", "ErrSign at 1:18"},
	} {
		expect(t, c.text, read("var x in "+c.text), c.want)
	}
	expect(t, "the second", read("var x in 0 .. 1; var y, z in 5 .. 4;"), "ErrRange at 1:35")
}

// TestP12_1ParseLayer10: errors of layer 10 come first, wherever they are.
func TestP12_1ParseLayer10(t *testing.T) {
	for _, c := range []struct{ s, want string }{
		{"?", "ErrSign at 1:1"}, {"x ?", "ErrSign at 1:3"}, {"var x, x; ?", "ErrSign at 1:11"}, {"init y = 1; proc p loc a; end 01", "ErrForm at 1:31"}, {"end end\n" + strings.Repeat("a", 21), "ErrLong at 2:1"}, {tail + " A", "ErrSign at 1:31"}, {tail + "\r", "ErrSign at 1:30"}, {tail + "#\r?", told(least())},
		{strings.Repeat(" ", 16384-28) + tail[1:], told(least())}, {strings.Repeat(" ", 16384-27) + tail[1:], "ErrLong at 1:1"}, {strings.Repeat("?", 16385), "ErrLong at 1:1"}, {strings.Repeat("x", 16384), "ErrLong at 1:1"}, {strings.Repeat(";", 16384), "ErrWant at 1:1"}, {strings.Repeat("init", 2), "ErrWant at 1:1"},
	} {
		expect(t, c.s, read(c.s), c.want)
	}
}

func TestP12_1Limits(t *testing.T) {
	vars := counted(17, "x")
	one16, one17 := "var "+strings.Join(vars[:16], ", ")+";", "var "+strings.Join(vars, ", ")+";"
	process := "proc p%d loc a; end "
	locs16, locs17 := strings.Join(counted(16, "l"), ","), strings.Join(counted(17, "l"), ",")
	expect(t, "16 variables", read(one16+tail), told(with(api.Decl{Names: vars[:16]})))
	expect(t, "17 variables", read(one17+tail), "ErrMany at 1:75")
	expect(t, "17 variables, each by itself", read(times(17, "var x%d;\n")+tail), "ErrMany at 17:5")
	expect(t, "17 variables in two", read(one16+"var y;"+tail), "ErrMany at 1:78")
	expect(t, "and no variable", read(one16+"var ;"+tail), "ErrWant at 1:78")
	expect(t, "8 processes", fmt.Sprint(strings.Count(read("init true; "+times(8, process)), `"a"`)), "8")
	expect(t, "9 processes", read("init true;\n"+times(9, process+"\n")), "ErrMany at 10:1")
	expect(t, "8 processes, and proc", read("init true;\n"+times(8, process)+"\n proc"), "ErrMany at 3:2")
	expect(t, "8 processes, and end", read("init true;\n"+times(8, process)+"\n end"), "ErrWant at 3:2")
	expect(t, "16 locations", read("init true; proc p loc "+locs16+"; end"), told(api.Model{Procs: []api.Proc{{Name: "p", Locs: counted(16, "l")}}}))
	expect(t, "17 locations", read("init true; proc p loc "+locs17+"; end"), "ErrMany at 1:77")
	expect(t, "16 locations of each", fmt.Sprint(strings.Count(read("init true; "+times(8, "proc p%d loc "+locs16+"; end ")), `"l15"`)), "8")
	expect(t, "17 locations of the second", read(head+"; end proc q loc "+locs17+"; end"), "ErrMany at 1:95")
	expect(t, "32 commands", fmt.Sprint(strings.Count(read(head+";"+times(32, "a -> a;")+"end"), `"a" "a"`)), "32")
	expect(t, "33 commands", read(head+";"+times(33, "\na -> a;")+"end"), "ErrMany at 34:1")
	expect(t, "32 commands of each", fmt.Sprint(strings.Count(read("init true;"+times(8, "proc p%d loc a;"+strings.Repeat("a->a;", 32)+"end ")), `"a" "a"`)), "256")
	expect(t, "33 commands of the second", read(head+";"+times(31, "a -> a;")+"end proc q loc b;\n"+times(33, "b->b;\n")+"end"), "ErrMany at 34:1")
	full := "var x;init 1 = " + strings.Repeat("x+", 63) + "x"
	expect(t, "64 monos", read(full+"; proc p loc a; end"), told(api.Model{Decls: []api.Decl{decl("x")}, Init: cmp(sum(plus("1", "")), api.Eq, many(64)), Procs: least().Procs}))
	expect(t, "65 monos", read(full+"+x;"), "ErrMany at 1:144")
	set64 := "var x; init true; proc p loc a; a -> a / x := " + strings.Repeat("x+", 63) + "x"
	expect(t, "64 monos assigned", told(strings.Contains(read(set64+"; end"), told(many(64)))), "true")
	expect(t, "65 monos assigned", read(set64+"+ 1;"), "ErrMany at 1:176")
}

// TestP12_1Levels: 60 levels are allowed in each condition.
func TestP12_1Levels(t *testing.T) {
	deny := func(n int) string { return strings.Repeat("!", n) + "true" }
	in := func(n int) string { return strings.Repeat("(", n) + "true" + strings.Repeat(")", n) }
	want := least()
	want.Init = denied(60, of(0))
	for _, g := range []api.Tree{denied(60, of(0)), of(0), denied(30, of(api.TAnd, of(0), of(0)))} {
		want.Procs[0].Cmds = append(want.Procs[0].Cmds, cmd("a", "a", g))
	}
	s := "init " + deny(60) + "; proc p loc a; a -> a : " + deny(60) + "; a -> a : " + in(60) + "; a -> a : " + strings.Repeat("!(", 30) + "true&true" + strings.Repeat(")", 30) + "; end"
	expect(t, "60 levels", read(s), told(want))
	expect(t, "61 levels", read("init "+deny(61)+"; proc p loc a; end"), "ErrDeep at 1:66")
	expect(t, "61 levels", read("init "+in(61)+"; proc p loc a; end"), "ErrDeep at 1:66")
	expect(t, "61 levels", read(head+"; a -> a : "+deny(61)+"; end"), "ErrDeep at 1:95")
	expect(t, "61 levels", read(head+"; a -> a : true & "+in(61)+"; end"), "ErrDeep at 1:102")
	expect(t, "60 levels, and no more", read("init "+deny(60)[:60]+";"), "ErrWant at 1:66")
}

// TestP12_1ErrorsAtTheSameToken: in the chapter's order.
func TestP12_1ErrorsAtTheSameToken(t *testing.T) {
	sixteen := "var " + strings.Join(counted(16, "x"), ", ") + ",\n"
	eight, locs, cmds := "init true;"+times(8, "proc p%d loc a; end ")+"\n", head+times(15, ",l%d")+",\n", head+";"+times(32, "a->a;")+"\n"
	full := strings.Repeat("1+", 64) + "\n"
	for _, c := range []struct{ s, want string }{
		{sixteen + "x3;", "ErrMany at 2:1"}, {sixteen + "y;", "ErrMany at 2:1"}, {sixteen + "in", "ErrWant at 2:1"}, {sixteen + "3", "ErrWant at 2:1"}, {strings.Replace(sixteen, "x15", "x0", 1) + "x0;", "ErrSame at 1:70"},
		{eight + "proc p0", "ErrMany at 2:1"}, {eight + "p0", "ErrWant at 2:1"}, {strings.Replace(eight, "p7", "p0", 1) + "proc", "ErrSame at 1:149"},
		{locs + "a;", "ErrMany at 2:1"}, {locs + "b;", "ErrMany at 2:1"}, {locs + "end", "ErrWant at 2:1"}, {locs + ";", "ErrWant at 2:1"},
		{cmds + "a -> a;", "ErrMany at 2:1"}, {cmds + "b -> a;", "ErrMany at 2:1"}, {cmds + "proc", "ErrWant at 2:1"}, {cmds + "-> a;", "ErrWant at 2:1"}, {cmds + "end a", "ErrWant at 2:5"},
		{"init " + full + "x = 1;", "ErrMany at 2:1"}, {"init " + full + "true;", "ErrWant at 2:1"}, {"init " + full + "2*x = 1;", "ErrMany at 2:1"}, {"var x; init true; proc p loc a; a -> a / x := " + full + "y;", "ErrMany at 2:1"}, {"var x; init true; proc p loc a; a -> a / x := " + full + "*;", "ErrWant at 2:1"},
		{"init " + strings.Repeat("(", 60) + "\n!y = 1", "ErrDeep at 2:1"}, {"init " + strings.Repeat("(", 60) + "\n)", "ErrWant at 2:1"}, {"init " + strings.Repeat("!", 60) + "\ny = 1", "ErrName at 2:1"},
		{"var x; init true; proc p loc a; a -> a / y := 1, y := 2;", "ErrName at 1:42"},
	} {
		expect(t, c.s, read(c.s), c.want)
	}
}

// TestP12_1Prefixes: a text that ends too early has its error at its end, and one that
// goes on behind the last "end" has it at the next token.
func TestP12_1Prefixes(t *testing.T) {
	ts := tokens(printed(sample()))
	for n, token := range ts[:len(ts)-1] {
		text := joined(ts[:n]) + "\n"
		if n > 0 && ts[n-1].Text == "end" {
			expect(t, text, fmt.Sprint(strings.HasPrefix(read(text), "Err")), "false")
		} else {
			expect(t, text, read(text), fmt.Sprintf("ErrWant at %d:1", max(n+1, 2)))
		}
		if token.Text != "proc" {
			expect(t, token.Text, read(tail+"\n"+token.Text), "ErrWant at 2:1")
		}
	}
	expect(t, "proc", read(tail+"\nproc\n"), "ErrWant at 3:1")
}

// TestP12_1ParseModels: texts of models, with all that can stand between tokens, and
// with what need not be there.
func TestP12_1ParseModels(t *testing.T) {
	r := rand.New(rand.NewSource(1))
	loosely := 0
	for _, m := range models(1500) {
		text := printed(m)
		expect(t, text, read(text), told(m))
		loose := strings.ReplaceAll(printed(loosened(r, m)), "@", "true")
		loose = strings.ReplaceAll(loose, " ", one(r, "  ", "\t", "\n", " # ; ? \r\n"))
		if len(loose) <= api.MaxText {
			loosely++
			expect(t, loose, read(loose), told(m))
		}
	}
	if loosely < 1000 {
		t.Errorf("only %d loose texts", loosely)
	}
}

// loosened is a model whose text, with "true" for "@", says what need not be said.
func loosened(r *rand.Rand, m api.Model) api.Model {
	ps := append([]api.Proc(nil), m.Procs...)
	for i := range ps {
		ps[i].Cmds = append([]api.Cmd(nil), ps[i].Cmds...)
		for j, c := range ps[i].Cmds {
			if told(c.Guard) == told(api.Tree{}) && r.Intn(2) == 0 {
				ps[i].Cmds[j].To += " : " + one(r, "@", "(@)", "((@))")
			}
		}
	}
	return api.Model{Decls: m.Decls, Init: m.Init, Procs: ps}
}

// TestP12_1ParseByGrammar: texts of models with some tokens changed, against the
// grammar of the document.
func TestP12_1ParseByGrammar(t *testing.T) {
	r := rand.New(rand.NewSource(2))
	counts := map[string]int{}
	for i, m := range models(1000) {
		text := printed(m)
		if len(text) > 2000 {
			continue
		}
		ts := tokens(text)
		for j := range 10 {
			text := joined(changed(r, ts, 1+(i+j)%2))
			if len(text) > api.MaxText {
				continue
			}
			want, use := first(tokens(text))
			got := read(text)
			counts[strings.SplitN(want, " ", 2)[0]+" "+use]++
			if want != "" {
				expect(t, text, got, want)
			} else if strings.HasPrefix(got, "Err") {
				t.Errorf("%s: %s", text, got)
			} else {
				expectParsed(t, text)
			}
		}
	}
	for _, e := range []string{
		" ", "ErrWant ", "ErrMany var", "ErrMany proc", "ErrMany loc", "ErrMany from", "ErrMany mono", "ErrDeep level",
		"ErrSame var", "ErrSame proc", "ErrSame loc", "ErrSame set", "ErrName from", "ErrName to", "ErrName set", "ErrName mono", "ErrName factor", "ErrRange hi",
	} {
		if counts[e] < 20 {
			t.Errorf("%s: only %d texts", e, counts[e])
		}
	}
}

// joined is the text of tokens, a line each.
func joined(ts []lex.Token) string {
	var texts []string
	for _, t := range ts {
		texts = append(texts, t.Text)
	}
	return strings.Join(texts, "\n")
}

// changed are tokens with so many changes.
func changed(r *rand.Rand, ts []lex.Token, n int) []lex.Token {
	ts = append([]lex.Token(nil), ts[:len(ts)-1]...)
	for range n {
		i, j := r.Intn(len(ts)), r.Intn(len(ts))
		switch r.Intn(15) {
		case 0:
			ts = append(ts[:i], ts[i+1:]...)
		case 1:
			ts[i], ts[j] = ts[j], ts[i]
		case 2:
			ts[i].Text = one(r, strings.Fields("var in init proc loc end true false a b x zz 0 1 - 5 , ; : .. + * & | ! @ = < >= ( ) -> := / X")...)
		case 3:
			ts = ts[:i+1]
		case 4, 5: // a name for another
			ts[found(r, ts, lex.Name)].Text = ts[found(r, ts, lex.Name)].Text
		case 6: // a number of a range for another
			i = found(r, ts, in(".."))
			ts[min(i+1, len(ts)-1)].Text = one(r, "0", "1", "12345678901234567891", "- 0", "- 3", "- 4")
		case 7: // levels
			ts = behind(r, ts, in("init : & | ! ("), one(r, "!", "(", "! ("), 58+r.Intn(5))
		case 8:
			ts = behind(r, ts, in("= != < <= > >= :="), one(r, "1 +", "1 -", "0 * x +"), 58+r.Intn(8))
		case 9:
			ts = behind(r, ts, in("var loc"), "n%d ,", 10+r.Intn(10))
		case 10:
			ts = behind(r, ts, in("end"), "proc n%d loc a ; end", 4+r.Intn(6))
		case 11:
			ts = behind(r, ts, in(";"), "a -> a ;", 28+r.Intn(8))
		case 12:
			ts = behind(r, ts, in(":="), "* , x :=", 1+r.Intn(2))
		default: // a piece twice
			ts = again(r, ts, i)
		}
		if len(ts) == 0 {
			return tokens("in")
		}
	}
	return ts
}

// in are the texts in a list.
func in(list string) func(string) bool {
	return func(text string) bool { return strings.Contains(" "+list+" ", " "+text+" ") }
}

// found is the index of a token with such a text, if there is one.
func found(r *rand.Rand, ts []lex.Token, is func(string) bool) int {
	all := []int{0}
	for i, t := range ts {
		if is(t.Text) {
			all = append(all, i)
		}
	}
	return one(r, all...)
}

// behind adds a text n times behind a token with such a text.
func behind(r *rand.Rand, ts []lex.Token, is func(string) bool, text string, n int) []lex.Token {
	ts[found(r, ts, is)].Text += " " + times(n, text+" ")
	return ts
}

// again repeats the piece around an index, up to a token that ends one.
func again(r *rand.Rand, ts []lex.Token, i int) []lex.Token {
	isEnd := in(one(r, "; end", "end", ", ;", "& |"))
	from, to := i, i
	for from > 0 && !isEnd(ts[from-1].Text) {
		from--
	}
	for to < len(ts)-1 && !isEnd(ts[to].Text) {
		to++
	}
	return slices.Concat(ts[:to+1], ts[from:to+1], ts[to+1:])
}

// expectParsed expects that what is parsed is valid, can be resolved, and says what
// the text says.
func expectParsed(t *testing.T, text string) {
	t.Helper()
	m, _, _ := model.Parse(text)
	if _, ok := model.System(m); !ok || !model.Right(m) {
		t.Errorf("%s is parsed", text)
	}
	expect(t, text, essence(printed(m)), essence(text))
}

// essence is a text without what need not be there.
func essence(text string) string {
	s := " "
	for _, token := range tokens(text) {
		if token.Text != "(" && token.Text != ")" {
			s += token.Text + " "
		}
	}
	return strings.NewReplacer(" : true ; ", " ; ", " : true / ", " / ").Replace(s)
}
