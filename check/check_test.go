package check

import (
	"fmt"
	"math"
	"reflect"
	"strings"
	"testing"

	"helmsman/api"
	"helmsman/parse"
	"helmsman/tree"
)

// head declares one of each kind; what stands behind it begins at place len(head).
const head = "enum mode { idle, run, halt } enum one { only } var m: mode; var b: bool; var x: int; var a: int[3]; var o: one; var y: int; proc tick { skip; } "

func read(t *testing.T, src string) tree.Prog {
	t.Helper()
	p, at, e := parse.Parse(src)
	if e != api.OK {
		t.Fatalf("%q is no program: %v at %d", src, e, at)
	}
	return p
}

// wants fails, if Check tells anything else of a program than this place and this error.
func wants(t *testing.T, what string, p tree.Prog, at int, want api.Errno) {
	t.Helper()
	i, place, e := Check(p)
	if e != want || place != at {
		t.Errorf("P14.2: %s: Check tells %v at %d, not %v at %d", what, e, place, want, at)
	}
	if e != api.OK && !reflect.DeepEqual(i, Info{}) {
		t.Errorf("P14.2: %s: beside %v there is an Info: %v", what, e, i)
	}
}

// text fails, if Check tells anything else of a program's text; with OK the program is read again, too.
func text(t *testing.T, src string, at int, want api.Errno) {
	t.Helper()
	p := read(t, src)
	wants(t, fmt.Sprintf("%q", src), p, at, want)
	if want == api.OK {
		again(t, p)
	}
}

// again fails, if a program that may be isn't the same once it was printed and read.
func again(t *testing.T, p tree.Prog) {
	t.Helper()
	q, at, e := parse.Parse(tree.Print(p))
	if e != api.OK || !tree.Same(p, q) {
		t.Fatalf("P14.4: printed and read it is another one (%v at %d):\n%s", e, at, tree.Print(p))
	}
	i, _, _ := Check(p)
	j, _, e := Check(q)
	if e != api.OK || !reflect.DeepEqual(i, j) {
		t.Fatalf("P14.4: printed and read its Info is %v, %v, not %v:\n%s", j, e, i, tree.Print(p))
	}
}

// behind fails, if Check tells anything else of main's statements behind head; the place is counted from their beginning.
func behind(t *testing.T, stmts string, at int, want api.Errno) {
	t.Helper()
	begin := head + "main { "
	if want != api.OK {
		at += len(begin)
	}
	text(t, begin+stmts+" }", at, want)
}

// TestChapter goes through the chapter's example.
func TestChapter(t *testing.T) {
	text(t, "main { x = 1; }", 7, api.ErrCheckName)
}

func TestValue(t *testing.T) {
	p := tree.Prog{
		Enums: []tree.Enum{{Name: "none"}, {Name: "e", L: []string{"a", "b", "a", ""}}, {Name: "f", L: []string{"c", "b", "d"}}},
		Vars:  []tree.Var{{Name: "x", Type: "int"}, {Name: "d", Type: "int"}},
		Procs: []tree.Proc{{Name: "q"}},
	}
	for name, want := range map[string]struct {
		of    string
		value int
		is    bool
	}{
		"a": {"e", 0, true}, "b": {"e", 1, true}, "": {"e", 3, true}, "c": {"f", 0, true}, "d": {"f", 2, true},
		"x": {}, "e": {}, "q": {}, "none": {}, "A": {}, "g": {},
	} {
		if of, value, is := Value(p, name); of != want.of || value != want.value || is != want.is {
			t.Errorf("P14.1: Value of %q is %q, %d, %v, not %v", name, of, value, is, want)
		}
	}
	if of, value, is := Value(tree.Prog{}, "a"); of != "" || value != 0 || is {
		t.Errorf("P14.1: Value of no enum is %q, %d, %v", of, value, is)
	}
}

func TestWide(t *testing.T) {
	for _, many := range []int{math.MinInt, -8, -1, 0, 1} {
		if w := Wide(many); w != 0 {
			t.Errorf("P14.1: Wide(%d) is %d, not 0", many, w)
		}
	}
	for many := 2; many <= 1100; many++ {
		if w := Wide(many); 1<<w < many || 1<<(w-1) >= many {
			t.Errorf("P14.1: Wide(%d) is %d", many, w)
		}
	}
	for w := 2; w < 63; w++ {
		if Wide(1<<w-1) != w || Wide(1<<w) != w || Wide(1<<w+1) != w+1 {
			t.Errorf("P14.1: Wide beside 2^%d", w)
		}
	}
	if Wide(math.MaxInt) != 63 {
		t.Errorf("P14.1: Wide(%d) is %d, not 63", math.MaxInt, Wide(math.MaxInt))
	}
}

// TestMany: step 1 and its edges.
func TestMany(t *testing.T) {
	for _, many := range []int{0, 1, 16, 17, 40} {
		want := api.OK
		if many > 16 {
			want = api.ErrCheckMany
		}
		var enums, vars, procs tree.Prog
		for i := range many {
			enums.Enums = append(enums.Enums, tree.Enum{Name: fmt.Sprint("e", i), L: []string{fmt.Sprint("c", i)}})
			vars.Vars = append(vars.Vars, tree.Var{Name: fmt.Sprint("v", i), Type: "int", Len: 1})
			procs.Procs = append(procs.Procs, tree.Proc{Name: fmt.Sprint("p", i)})
		}
		for _, p := range []tree.Prog{enums, vars, procs, {Enums: enums.Enums[:min(many, 16)], Vars: vars.Vars, Procs: procs.Procs}} {
			wants(t, fmt.Sprint(many, " are declared"), p, 0, want)
		}
	}
	letters := strings.Split("abcdefghijklmnopqrst", "")
	for many, want := range map[int]api.Errno{0: api.ErrCheckMany, 1: api.OK, 8: api.OK, 9: api.ErrCheckMany, 20: api.ErrCheckMany} {
		wants(t, fmt.Sprint(many, " values"), tree.Prog{Enums: []tree.Enum{{Name: "first", L: []string{"x"}}, {Name: "mode", L: letters[:many]}}}, 0, want)
	}
	for length, want := range map[int]api.Errno{math.MinInt: api.ErrCheckMany, -1: api.ErrCheckMany, 0: api.OK, 1: api.OK, 16: api.OK, 17: api.ErrCheckMany, math.MaxInt: api.ErrCheckMany} {
		wants(t, fmt.Sprint("Len ", length), tree.Prog{Vars: []tree.Var{{Name: "x", Type: "int"}, {Name: "y", Type: "int", Len: length}}}, 0, want)
	}
}

// withName are programs in which one thing has this name: an enum, a value, a variable, a procedure.
func withName(name string) []tree.Prog {
	return []tree.Prog{
		{Enums: []tree.Enum{{Name: name, L: []string{"c"}}}},
		{Enums: []tree.Enum{{Name: "e", L: []string{"c", name}}}},
		{Vars: []tree.Var{{Name: name, Type: "int"}}},
		{Procs: []tree.Proc{{Name: name}}},
	}
}

// TestNames: step 2 and its edges.
func TestNames(t *testing.T) {
	for _, name := range []string{"x", "Z", "x_", "a9", "Main", "mains", "inputs", "abcdefghijklmnop", "bool_"} {
		for _, p := range withName(name) {
			wants(t, "the name "+name, p, 0, api.OK)
			again(t, p)
		}
	}
	reserved := strings.Fields("enum var proc main if else while assert assume call skip input true false int bool")
	for _, name := range append(reserved, "", "9", "9a", "_", "_a", "x y", " x", "x ", "x\n", "\tx", "x#", "(x)", "-x", "x[0]", "x-y", "é", "x\x00", "abcdefghijklmnopq", strings.Repeat("x", 5000)) {
		for _, p := range withName(name) {
			wants(t, fmt.Sprintf("the name %.20q", name), p, 0, api.ErrCheckName)
		}
	}
	// There twice: each with each.
	for i, p := range withName("x") {
		for j, q := range withName("x") {
			if i == j {
				q.Enums = append(q.Enums, p.Enums...)
			}
			q = tree.Prog{Enums: append(q.Enums, p.Enums...), Vars: append(q.Vars, p.Vars...), Procs: append(q.Procs, p.Procs...)}
			wants(t, fmt.Sprint("a name twice: ", q), q, 0, api.ErrCheckName)
		}
	}
	wants(t, "a value twice", tree.Prog{Enums: []tree.Enum{{Name: "e", L: []string{"a", "b", "a"}}}}, 0, api.ErrCheckName)
	wants(t, "an enum as its own value", tree.Prog{Enums: []tree.Enum{{Name: "e", L: []string{"a", "e"}}}}, 0, api.ErrCheckName)
}

// TestTypes: step 3 and its edges.
func TestTypes(t *testing.T) {
	for src, want := range map[string]api.Errno{
		"var x: int; main { }": api.OK, "var x: bool; main { }": api.OK, "var x: int[1]; main { }": api.OK,
		"enum e { c } var x: e; main { }": api.OK, "var x: e; enum e { c } main { }": api.OK,
		"var x: e; main { }": api.ErrCheckType, "var x: x; main { }": api.ErrCheckType, "enum e { c } var x: c; main { }": api.ErrCheckType,
		"var y: int; var x: y; main { }": api.ErrCheckType, "proc p { } var x: p; main { }": api.ErrCheckType,
		"var x: bool[1]; main { }": api.ErrCheckType, "enum e { c } var x: e[2]; main { }": api.ErrCheckType, "var x: e[2]; main { }": api.ErrCheckType,
		"var y: int; var x: int[2]; var z: bool[16]; main { }": api.ErrCheckType,
	} {
		text(t, src, 0, want)
	}
	for _, of := range []string{"", "Int", "int ", "true", "num"} {
		wants(t, fmt.Sprintf("the type %q", of), tree.Prog{Vars: []tree.Var{{Name: "x", Type: of}}}, 0, api.ErrCheckType)
	}
}

// bitVars are variables of enums of 5 values, and of bools.
func bitVars(wide, single int) string {
	s := "enum e { c1, c2, c3, c4, c5 } enum one { only } var o: one; "
	for i := range wide {
		s += fmt.Sprintf("var w%d: e; ", i)
	}
	for i := range single {
		s += fmt.Sprintf("var b%d: bool; ", i)
	}
	return s + "main { }"
}

// nested is skip within so many blocks.
func nested(many int, begin, end string) string {
	return strings.Repeat(begin, many) + "skip; " + strings.Repeat(end, many)
}

// TestLimits: step 4 and its edges.
func TestLimits(t *testing.T) {
	text(t, bitVars(4, 0), 0, api.OK)
	text(t, bitVars(4, 1), 0, api.ErrCheckMany)
	text(t, bitVars(0, 12), 0, api.OK)
	text(t, bitVars(0, 13), 0, api.ErrCheckMany)
	text(t, bitVars(3, 3), 0, api.OK)
	text(t, bitVars(3, 4), 0, api.ErrCheckMany)
	text(t, bitVars(5, 0), 0, api.ErrCheckMany)
	ints := "var a: int; var b: int; var c: int; var d: int; var e: int; var f: int; "
	text(t, ints+"var l: int[1]; var g: bool; main { }", 0, api.OK)
	text(t, ints+"var g: int; main { }", 0, api.ErrCheckMany)
	for _, n := range []string{"main { %s}", "proc p { } proc q { %s} main { }"} {
		for _, block := range []string{"if true { ", "while true { ", "if true { } else { "} {
			text(t, fmt.Sprintf(n, nested(14, block, "} ")), 0, api.OK)
			text(t, fmt.Sprintf(n, nested(15, block, "} ")), 0, api.ErrCheckMany)
		}
		// Empty blocks are no statements.
		text(t, fmt.Sprintf(n, strings.Replace(nested(15, "if true { ", "} "), "skip; ", "", 1)), 0, api.OK)
	}
	for _, n := range []string{"x = %s;", "y = 1; if %s == 0 { }", "if b { } else { while b { a[0] = %s; } }", "a[%s] = 0;"} {
		deep := 16
		if strings.Contains(n, "==") {
			deep--
		}
		most := strings.Repeat("1 + ", deep-1) + "1"
		behind(t, fmt.Sprintf(n, most), 0, api.OK)
		text(t, head+"main { "+fmt.Sprintf(n, "1 + "+most)+" }", 0, api.ErrCheckMany)
		behind(t, fmt.Sprintf(n, strings.Repeat("-", deep-1)+"y"), 0, api.OK)
		text(t, head+"main { "+fmt.Sprintf(n, strings.Repeat("-", deep)+"y")+" }", 0, api.ErrCheckMany)
		text(t, head+"proc q { "+fmt.Sprintf(n, strings.Repeat("a[", deep)+"y"+strings.Repeat("]", deep))+" } main { }", 0, api.ErrCheckMany)
	}
}

// TestLong: step 7 and its edges.
func TestLong(t *testing.T) {
	p := tree.Prog{Main: []tree.Stmt{{Op: "assert", E: []tree.Expr{{Op: "<", L: []tree.Expr{{Op: "num"}, {Op: "num", N: 1}}}}}}}
	for len(tree.Print(p)) <= 4096-8 {
		p.Main = append(p.Main, tree.Stmt{Op: "skip"})
	}
	n := 1
	for len(tree.Print(p)) < 4096 {
		n *= 10
		p.Main[0].E[0].L[1].N = n
	}
	if l := len(tree.Print(p)); l != 4096 {
		t.Fatalf("the program is %d bytes long", l)
	}
	wants(t, "4096 bytes", p, 0, api.OK)
	again(t, p)
	p.Main[0].E[0].L[1].N *= 10
	wants(t, "4097 bytes", p, 0, api.ErrCheckMany)
	p.Main = append(p.Main, make([]tree.Stmt, 1000)...)
	for i := range p.Main[1:] {
		p.Main[1+i].Op = "skip"
	}
	wants(t, "many bytes", p, 0, api.ErrCheckMany)
}

// TestStatements: step 5, each Op.
func TestStatements(t *testing.T) {
	for _, stmts := range []string{
		"", "skip;", "x = 1;", "x = y;", "x = a[2];", "b = b;", "b = false;", "m = run;", "m = m;", "o = only;", "b = x == y || m != idle && !(o == only);",
		"a[0] = 1;", "a[x] = a[a[x]];", "a[-1] = x;",
		"x = input(0, 0);", "x = input(-3, 3);", "x = input(-3, -2);", "x = input(-0, 0);", "x = input(0, -0);", "m = input;", "b = input;", "o = input;",
		"x = input(-1152921504606846976, 1152921504606846976);",
		"if b { } else { }", "if b { x = 1; }", "if x < y { x = 1; } else { b = b; }", "while b { while !b { } }", "assert b;", "assume m == halt;", "call tick;", "call tick; call tick;",
	} {
		behind(t, stmts, 0, api.OK)
	}
	for stmts, want := range map[string]api.Errno{
		"z = 1;": api.ErrCheckName, "a = 1;": api.ErrCheckName, "idle = 1;": api.ErrCheckName, "mode = idle;": api.ErrCheckName, "tick = 1;": api.ErrCheckName,
		"z = true;": api.ErrCheckName, "a = b;": api.ErrCheckName,
		"x = b;": api.ErrCheckType, "x = idle;": api.ErrCheckType, "b = 0;": api.ErrCheckType, "b = m;": api.ErrCheckType, "m = 0;": api.ErrCheckType, "m = only;": api.ErrCheckType, "o = m;": api.ErrCheckType, "m = true;": api.ErrCheckType,
		"z[0] = 1;": api.ErrCheckName, "x[0] = 1;": api.ErrCheckName, "b[b] = b;": api.ErrCheckName, "tick[0] = 1;": api.ErrCheckName,
		"a[b] = 1;": api.ErrCheckType, "a[0] = b;": api.ErrCheckType, "a[m] = m;": api.ErrCheckType,
		"z = input;": api.ErrCheckName, "a = input;": api.ErrCheckName, "z = input(0, 1);": api.ErrCheckName, "a = input(0, 1);": api.ErrCheckName, "idle = input;": api.ErrCheckName, "a = input(1, 0);": api.ErrCheckName,
		"x = input;": api.ErrCheckRange, "x = input(1, 0);": api.ErrCheckRange, "x = input(-1, -2);": api.ErrCheckRange, "x = input(0, -1);": api.ErrCheckRange,
		"x = input(y, 9);": api.ErrCheckRange, "x = input(0, y);": api.ErrCheckRange, "x = input(0, 1 + 1);": api.ErrCheckRange, "x = input(- -1, 2);": api.ErrCheckRange, "x = input(0, -y);": api.ErrCheckRange, "x = input(0, a[0]);": api.ErrCheckRange,
		"x = input(b, true);": api.ErrCheckRange, "b = input(0, 1);": api.ErrCheckRange, "m = input(0, 2);": api.ErrCheckRange, "b = input(false, true);": api.ErrCheckRange, "m = input(idle, halt);": api.ErrCheckRange,
		"if x { }": api.ErrCheckType, "if m { }": api.ErrCheckType, "while 1 { }": api.ErrCheckType, "while o { }": api.ErrCheckType, "assert 0;": api.ErrCheckType, "assert m;": api.ErrCheckType, "assume x + y;": api.ErrCheckType, "assume only;": api.ErrCheckType,
		"call tock;": api.ErrCheckName, "call x;": api.ErrCheckName, "call idle;": api.ErrCheckName, "call mode;": api.ErrCheckName,
	} {
		behind(t, stmts, 0, want)
		behind(t, "skip; "+stmts+" zz = 1;", 6, want)
		behind(t, "if b { "+stmts+" } else { zz = 1; }", 7, want)
		behind(t, "if b { skip; } else { "+stmts+" } zz = 1;", 22, want)
		behind(t, "while b { "+stmts+" } zz = 1;", 10, want)
		text(t, head+"proc p { "+stmts+" } proc q { zz = 1; } main { zz = 1; }", len(head)+9, want)
	}
}

// TestOrder: what of several faults is told.
func TestOrder(t *testing.T) {
	// Expressions ahead of the statement itself, from left to right; then what is within it.
	behind(t, "zz = zy;", 5, api.ErrCheckName)
	behind(t, "zz = 1 + b;", 7, api.ErrCheckType)
	behind(t, "x[b + 1] = zy;", 4, api.ErrCheckType)
	behind(t, "x[zx] = zy + b;", 2, api.ErrCheckName)
	behind(t, "z = input(zx, zy);", 10, api.ErrCheckName)
	behind(t, "z = input(0, !x);", 13, api.ErrCheckType)
	behind(t, "if x { zz = 1; }", 0, api.ErrCheckType)
	behind(t, "if b { y = b; } else { zz = 1; }", 7, api.ErrCheckType)
	behind(t, "while x { zz = 1; }", 0, api.ErrCheckType)
	// Procedures in order, then main.
	text(t, "proc p { skip; } proc q { call z; } main { x = 1; }", 26, api.ErrCheckName)
	text(t, "proc q { call p; } proc p { assert 1; } main { x = 1; }", 28, api.ErrCheckType)
	// The steps, one behind the other: a program with one fault of each, which are mended from the first on.
	p := read(t, "enum e { c } var x: e; var y: e; var z: bool; proc p { call p; } main { z = input(0, 1); }")
	p.Vars[0], p.Vars[1], p.Vars[2] = tree.Var{Name: "x", Type: "f", Len: 17}, tree.Var{Name: "x", Type: "bool"}, tree.Var{Name: "z", Type: "int", Len: 2}
	deep := tree.Expr{Op: "num", N: -1, At: 5}
	for range 16 {
		deep = tree.Expr{Op: "neg", L: []tree.Expr{deep}}
	}
	p.Main = append(p.Main, tree.Stmt{Op: "set", Name: "y", E: []tree.Expr{deep}, At: 99})
	steps := []struct {
		want api.Errno
		at   int
		mend func()
	}{
		{api.ErrCheckMany, 0, func() { p.Vars[0].Len = 0 }},
		{api.ErrCheckName, 0, func() { p.Vars[1].Name = "y" }},
		{api.ErrCheckType, 0, func() { p.Vars[0].Type = "int" }},
		{api.ErrCheckMany, 0, func() { p.Main[1].E[0].L[0] = deep.L[0].L[0] }},
		{api.ErrCheckName, 72, func() { p.Main[0] = tree.Stmt{Op: "call", Name: "p"} }},
		{api.ErrCheckMany, 5, func() { p.Main[1] = tree.Stmt{Op: "skip"} }},
		{api.ErrCheckCycle, 0, func() { p.Procs[0].Body = longBlock() }},
		{api.ErrCheckMany, 0, func() { p.Procs[0].Body = nil }},
	}
	for i, step := range steps {
		wants(t, fmt.Sprint("step by step, ", i), p, step.at, step.want)
		step.mend()
	}
	wants(t, "step by step, mended", p, 0, api.OK)
}

// longBlock is more than can be printed.
func longBlock() []tree.Stmt {
	l := make([]tree.Stmt, 600)
	for i := range l {
		l[i].Op = "skip"
	}
	return l
}

// TestForm: a statement that isn't as its Op asks, ahead of all else that is wrong with it, at its place.
func TestForm(t *testing.T) {
	vars := []tree.Var{{Name: "x", Type: "int"}, {Name: "b", Type: "bool"}, {Name: "a", Type: "int", Len: 2}}
	one, yes, none := tree.Expr{Op: "num", N: 1, At: 9}, tree.Expr{Op: "true", At: 9}, tree.Expr{Op: "name", Name: "none", At: 9}
	skip := []tree.Stmt{{Op: "skip", At: 9}}
	right := []tree.Stmt{
		{Op: "set", Name: "x", E: []tree.Expr{one}}, {Op: "put", Name: "a", E: []tree.Expr{one, one}},
		{Op: "input", Name: "b"}, {Op: "input", Name: "x", E: []tree.Expr{one, one}},
		{Op: "if", E: []tree.Expr{yes}, A: skip, B: skip}, {Op: "if", E: []tree.Expr{yes}, B: skip}, {Op: "while", E: []tree.Expr{yes}, A: skip},
		{Op: "assert", E: []tree.Expr{yes}}, {Op: "assume", E: []tree.Expr{yes}}, {Op: "call", Name: "p"}, {Op: "skip"},
		{Op: "skip", E: []tree.Expr{}, A: []tree.Stmt{}, B: []tree.Stmt{}},
	}
	form := func(s tree.Stmt, want api.Errno) {
		t.Helper()
		s.At = 4
		at := map[bool]int{true: 4}[want != api.OK]
		for _, body := range [][]tree.Stmt{{s}, {skip[0], s, {Op: "set", Name: "z", At: 9}}, {{Op: "while", E: []tree.Expr{yes}, A: []tree.Stmt{s}}}} {
			if want == api.OK && len(body) > 1 {
				body = body[:2]
			}
			wants(t, fmt.Sprint("the form of ", s), tree.Prog{Vars: vars, Procs: []tree.Proc{{Name: "p"}}, Main: body}, at, want)
			wants(t, fmt.Sprint("the form of ", s), tree.Prog{Vars: vars, Procs: []tree.Proc{{Name: "p"}, {Name: "q", Body: body}}}, at, want)
		}
	}
	for _, s := range right {
		form(s, api.OK)
		named := s.Op == "set" || s.Op == "put" || s.Op == "input" || s.Op == "call"
		wrong := func(change func(s *tree.Stmt)) {
			t.Helper()
			changed := s
			change(&changed)
			form(changed, api.ErrCheckType)
		}
		wrong(func(s *tree.Stmt) { s.Op = "" })
		wrong(func(s *tree.Stmt) { s.Op += " " })
		wrong(func(s *tree.Stmt) { s.Op = strings.ToUpper(s.Op) })
		wrong(func(s *tree.Stmt) { s.E = []tree.Expr{none, none, none} })
		wrong(func(s *tree.Stmt) { s.E = append(s.E[:len(s.E):len(s.E)], yes, yes, yes) })
		if len(s.E) != 1 {
			wrong(func(s *tree.Stmt) { s.E = []tree.Expr{one} })
			wrong(func(s *tree.Stmt) { s.E = []tree.Expr{none} })
		}
		if s.Op != "put" && s.Op != "input" {
			wrong(func(s *tree.Stmt) { s.E = []tree.Expr{one, one} })
		}
		if len(s.E) > 0 && s.Op != "input" {
			wrong(func(s *tree.Stmt) { s.E = nil })
		}
		if named {
			empty := s
			empty.Name = ""
			form(empty, api.ErrCheckName)
		} else {
			wrong(func(s *tree.Stmt) { s.Name = "x" })
		}
		if s.Op != "if" && s.Op != "while" {
			wrong(func(s *tree.Stmt) { s.A = skip })
			wrong(func(s *tree.Stmt) { s.A = []tree.Stmt{{Op: "jump", At: 9}} })
		}
		if s.Op != "if" {
			wrong(func(s *tree.Stmt) { s.B = skip })
		}
	}
}

// TestCycle: step 6 and its edges.
func TestCycle(t *testing.T) {
	for src, want := range map[string]api.Errno{
		"proc p { } proc q { call p; call p; } main { call p; call q; }":                                   api.OK,
		"proc p { call q; } proc q { call r; } proc r { } main { }":                                        api.OK,
		"proc p { call q; call r; } proc q { call r; } proc r { } main { }":                                api.OK,
		"proc p { call p; } main { }":                                                                      api.ErrCheckCycle,
		"proc r { } proc p { skip; if true { } else { while true { call r; call p; } } } main { call r; }": api.ErrCheckCycle,
		"proc p { call q; } proc q { call p; } main { }":                                                   api.ErrCheckCycle,
		"proc p { call q; } proc q { call r; } proc r { if false { call p; } } main { }":                   api.ErrCheckCycle,
		"proc p { call r; } proc q { call p; } proc r { call q; } main { }":                                api.ErrCheckCycle,
		"proc p { call q; } proc q { call q; } main { }":                                                   api.ErrCheckCycle,
		"proc p { call q; } proc q { } proc r { call s; } proc s { call t; } proc t { call r; } main { }":  api.ErrCheckCycle,
	} {
		text(t, src, 0, want)
	}
	// A ring of all, in whatever order they are declared; and the same, but for one call.
	for _, stride := range []int{1, 3, 5, 15} {
		for _, open := range []bool{false, true} {
			var p tree.Prog
			for i := range 16 {
				q := tree.Proc{Name: fmt.Sprint("p", i), Body: []tree.Stmt{{Op: "call", Name: fmt.Sprint("p", (i+stride)%16)}}}
				if open && i == 7 {
					q.Body[0] = tree.Stmt{Op: "skip"}
				}
				p.Procs = append(p.Procs, q)
			}
			want := api.ErrCheckCycle
			if open {
				want = api.OK
			}
			wants(t, fmt.Sprint("a ring by ", stride), p, 0, want)
		}
	}
}

// TestInfo: the Info of all kinds, and Find.
func TestInfo(t *testing.T) {
	if kinds := [4]int{Bool, Enum, Int, Array}; kinds != [4]int{0, 1, 2, 3} {
		t.Errorf("P14.3: the kinds are %v", kinds)
	}
	p := read(t, "enum e5 { a1, a2, a3, a4, a5 } enum e2 { b1, b2 } enum e1 { c1 } enum e8 { d1, d2, d3, d4, d5, d6, d7, d8 }"+
		"var i: int; var l: int[1]; var b: bool; var o: e1; var v: e5; var j: int; var k: int[16]; var w: e2; var n: int[3]; var u: e8; var c: bool; main { }")
	want := []Var{
		{"i", Int, 1, 0, 0, "int"}, {"l", Array, 0, 0, 1, "int"}, {"b", Bool, 0, 1, 2, "bool"}, {"o", Enum, 1, 0, 1, "e1"}, {"v", Enum, 1, 3, 5, "e5"}, {"j", Int, 2, 0, 0, "int"},
		{"k", Array, 1, 0, 16, "int"}, {"w", Enum, 4, 1, 2, "e2"}, {"n", Array, 2, 0, 3, "int"}, {"u", Enum, 5, 3, 8, "e8"}, {"c", Bool, 8, 1, 2, "bool"},
	}
	for range 2 {
		i, at, e := Check(p)
		if e != api.OK || at != 0 || !reflect.DeepEqual(i, Info{want, 9, 2, 3}) {
			t.Fatalf("P14.3: %v at %d, the Info is\n%v, not\n%v", e, at, i, want)
		}
		for _, v := range want {
			if got, is := i.Find(v.Name); !is || got != v {
				t.Errorf("P14.3: Find(%q) is %v, %v, not %v", v.Name, got, is, v)
			}
		}
		for _, name := range []string{"", "x", "e5", "a1", "I", "bool"} {
			if v, is := i.Find(name); is || v != (Var{}) {
				t.Errorf("P14.3: Find(%q) is %v, %v", name, v, is)
			}
		}
		// The Info is the caller's own.
		clear(i.Vars)
	}
	twice := Info{Vars: []Var{{Name: "x", At: 1}, {Name: "x", At: 2}}}
	if v, is := twice.Find("x"); !is || v.At != 1 {
		t.Errorf("P14.3: Find of what is there twice is %v, %v", v, is)
	}
	if v, is := (Info{}).Find("x"); is || v != (Var{}) {
		t.Errorf("P14.3: Find in no Info is %v, %v", v, is)
	}
	if i, at, e := Check(tree.Prog{}); e != api.OK || at != 0 || len(i.Vars) != 0 || i.Bits+i.Ints+i.Arrays != 0 {
		t.Errorf("P14.3: the Info of no program is %v, %d, %v", i, at, e)
	}
}

// TestModel holds Check against the chapter's words, of right programs, and of such that were spoiled.
func TestModel(t *testing.T) {
	met := map[api.Errno]int{}
	for seed := range 12000 {
		d := newDice(seed)
		p := newProg(d)
		if seed%3 > 0 {
			p = d.spoiled(p, 1+d(3))
		}
		before := copyProg(p)
		i, at, e := Check(p)
		met[e]++
		if want := modelCheck(p); want != (fault{at, e}) {
			t.Fatalf("P14.2: seed %d: Check tells %v at %d, not %v at %d, of\n%v\n%s", seed, e, at, want.e, want.at, p, tree.Print(p))
		}
		if e == api.OK && !reflect.DeepEqual(i, modelInfo(p)) || e != api.OK && !reflect.DeepEqual(i, Info{}) {
			t.Fatalf("P14.3: seed %d: with %v the Info is %v, of\n%s", seed, e, i, tree.Print(p))
		}
		if !reflect.DeepEqual(before, p) {
			t.Fatalf("R5: seed %d: Check changes what it is given", seed)
		}
		if e == api.OK {
			again(t, p)
		}
	}
	for _, e := range []api.Errno{api.OK, api.ErrCheckName, api.ErrCheckType, api.ErrCheckMany, api.ErrCheckCycle, api.ErrCheckRange} {
		if met[e] < 20 {
			t.Errorf("only %d programs with %v were made", met[e], e)
		}
	}
}
