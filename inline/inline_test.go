package inline

import (
	"fmt"
	"slices"
	"strings"
	"testing"

	"helmsman/api"
	"helmsman/check"
	"helmsman/parse"
	"helmsman/tree"
)

func read(t *testing.T, src string) tree.Prog {
	t.Helper()
	p, at, e := parse.Parse(src)
	if e != api.OK {
		t.Fatalf("%q is no program: %v at %d", src, e, at)
	}
	return p
}

// right is a program's tree, which may be.
func right(t *testing.T, src string) tree.Prog {
	t.Helper()
	p := read(t, src)
	if _, at, e := check.Check(p); e != api.OK {
		t.Fatalf("%q may not be: %v at %d", src, e, at)
	}
	return p
}

// inlinesTo fails, if a program is inlined to anything else than another one's main.
func inlinesTo(t *testing.T, src, want string) {
	t.Helper()
	p, w := right(t, src), right(t, want)
	q, e := Inline(p)
	if e != api.OK || !tree.Same(q, w) {
		t.Errorf("P15.3: %q: %v, and\n%s", src, e, tree.Print(q))
	}
	if n := len(stmtsOf(w.Main)); Many(p) != n {
		t.Errorf("P15.2: %q: Many is %d, not %d", src, Many(p), n)
	}
}

// counts fails, if Many tells anything else, or Inline doesn't tell as much.
func counts(t *testing.T, what string, p tree.Prog, want int) {
	t.Helper()
	if n := Many(p); n != want {
		t.Errorf("P15.2: %s: Many is %d, not %d", what, n, want)
	}
	q, e := Inline(p)
	switch {
	case want > 400 && (e != api.ErrInlineLong || sign(q) != sign(tree.Prog{})):
		t.Errorf("P15.3: %s: %d statements, but %v, and %d in main", what, want, e, len(q.Main))
	case want <= 400 && (e != api.OK || len(stmtsOf(q.Main)) != want):
		t.Errorf("P15.3: %s: %v, and %d statements, not %d", what, e, len(stmtsOf(q.Main)), want)
	}
}

// refused fails, if a program that may not be isn't refused by all.
func refused(t *testing.T, what string, p tree.Prog) {
	t.Helper()
	if _, _, e := check.Check(p); e == api.OK {
		t.Fatalf("%s may be", what)
	}
	if q, e := Inline(p); e != api.ErrArg || sign(q) != sign(tree.Prog{}) {
		t.Errorf("P15.3: %s: Inline tells %v, and a program with %d statements", what, e, len(q.Main))
	}
	if n := Many(p); n != 0 {
		t.Errorf("P15.2: %s: Many is %d, not 0", what, n)
	}
	if l := Order(p); len(l) != 0 {
		t.Errorf("P15.1: %s: Order is %q, not nothing", what, l)
	}
}

// TestChapter goes through the chapter's example.
func TestChapter(t *testing.T) {
	inlinesTo(t, "proc p { skip; } main { call p; call p; }", "main { skip; skip; }")
}

func TestCalls(t *testing.T) {
	for src, want := range map[string]string{
		"main { }":                         "",
		"main { skip; x = 1; }":            "",
		"main { call a; }":                 "a",
		"main { call a; call b; call a; }": "a b a",
		"main { call a; if b { call c; call a; } else { call d; } call e; }":           "a c a d e",
		"main { while b { call c; if b { } else { call a; } call d; } call a; }":       "c a d a",
		"main { if b { if b { call a; } else { call b; } } else { call c; } call d; }": "a b c d",
		"proc a { call x; } proc b { call y; } main { call b; skip; call a; }":         "b a",
	} {
		if l := Calls(read(t, src).Main); !slices.Equal(l, strings.Fields(want)) {
			t.Errorf("P15.1: %q: Calls are %q, not %q", src, l, want)
		}
	}
	if l := Calls(nil); len(l) != 0 {
		t.Errorf("P15.1: Calls of nothing are %q", l)
	}
}

// TestCallsOfWrong has statements that no program has: each is told ahead of its A, that ahead of its B.
func TestCallsOfWrong(t *testing.T) {
	call := func(name string, a, b []tree.Stmt) tree.Stmt {
		return tree.Stmt{Op: "call", Name: name, A: a, B: b}
	}
	one := func(name string) []tree.Stmt { return []tree.Stmt{call(name, nil, nil)} }
	l := []tree.Stmt{
		call("a", []tree.Stmt{call("b", one("c"), one("d"))}, one("")),
		{Op: "none", Name: "x", A: one("main"), B: one("a")},
		{Op: "set", Name: "call", B: one("e")},
	}
	if got, want := Calls(l), []string{"a", "b", "c", "d", "", "main", "a", "e"}; !slices.Equal(got, want) {
		t.Errorf("P15.1: Calls are %q, not %q", got, want)
	}
}

func TestOrder(t *testing.T) {
	for src, want := range map[string]string{
		"main { }":            "",
		"proc a { } main { }": "a",
		"proc b { } proc a { } proc c { } main { }": "b a c",
		"proc a { } proc b { call a; } main { }":    "a b",
		"proc a { call b; } proc b { } main { }":    "b a",
		// What is next is the first one declared, not the one that somebody waits for.
		"proc x { call z; } proc y { } proc z { } main { }":                                   "y z x",
		"proc x { call z; } proc z { } proc y { } main { }":                                   "z x y",
		"proc d { call b; call c; } proc c { call a; } proc b { call a; } proc a { } main {}": "a c b d",
		"proc a { call c; } proc b { } proc c { call d; } proc d { } main { call a; }":        "b d c a",
		"proc a { call b; call b; call c; call b; } proc b { call c; } proc c { } main { }":   "c b a",
		"var t: bool; proc a { if t { } else { while t { call b; } } } proc b { } main { }":   "b a",
	} {
		if l := Order(right(t, src)); !slices.Equal(l, strings.Fields(want)) {
			t.Errorf("P15.1: %q: Order is %q, not %q", src, l, want)
		}
	}
}

func TestInline(t *testing.T) {
	const vars = "enum mode { idle, run } var m: mode; var b: bool; var x: int; var a: int[3]; "
	for _, row := range [][3]string{
		{"", "", ""},
		{"", "x = 1; if b { skip; } while b { a[x] = 2; }", "x = 1; if b { skip; } while b { a[x] = 2; }"},
		{"proc p { }", "call p; call p;", ""},
		{"proc p { skip; }", "x = 1;", "x = 1;"},
		{"proc p { m = run; x = -x; }", "call p; b = true; call p;", "m = run; x = -x; b = true; m = run; x = -x;"},
		{"proc p { call q; call q; } proc q { assume b; }", "call p; call q;", "assume b; assume b; assume b;"},
		{"proc p { if b { call q; } } proc q { x = input(-1, 0); }", "call p;", "if b { x = input(-1, 0); }"},
		{"proc p { while b { call q; } } proc q { m = input; }", "if b { call p; } else { call q; call p; }",
			"if b { while b { m = input; } } else { m = input; while b { m = input; } }"},
		{"proc p { } proc q { if b { call p; } else { call p; } }", "while b { call q; call p; }", "while b { if b { } else { } }"},
		{"proc p { skip; assert b; } proc q { call p; skip; call p; }", "call q;", "skip; assert b; skip; skip; assert b;"},
	} {
		inlinesTo(t, vars+row[0]+" main { "+row[1]+" }", vars+"main { "+row[2]+" }")
	}
}

// TestPlaces has statements and expressions that stand where they stood: in their procedure, as often as it is called.
func TestPlaces(t *testing.T) {
	p := right(t, "var b: bool; proc p { b = !b; } main { call p; while b { call p; } }")
	body := p.Procs[0].Body
	loop := p.Main[1]
	loop.A = body
	want := tree.Prog{Vars: p.Vars, Main: []tree.Stmt{body[0], loop}}
	if q, _ := Inline(p); sign(q) != sign(want) {
		t.Errorf("P15.3: %s, not %s", sign(q), sign(want))
	}
}

// doubling is a procedure of these statements, and others that each call the one ahead of them so many times.
func doubling(body string, levels, times int) string {
	src := "proc p0 { " + body + " } "
	for i := range levels {
		src += fmt.Sprintf("proc p%d { %s} ", i+1, strings.Repeat(fmt.Sprintf("call p%d; ", i), times))
	}
	return src
}

func TestMany(t *testing.T) {
	for n, mains := range map[int][]string{
		0:   {"", "call none;", "call none; call none;"},
		1:   {"skip;", "call p0;", "call none; call p0; call none;"},
		2:   {"if b { skip; }", "if b { } else { call p0; }", "while b { call p0; }", "call p1;"},
		4:   {"call p2;", "call p1; call p1;", "if b { skip; call none; } else { while b { } } call p0;"},
		399: {"call p8; call p7; call p3; call p2; call p1; call p0;"},
		400: {"call p8; call p7; call p4;", "while b { call p8; call p7; call p3; call p2; call p1; call p0; }"},
		401: {"call p8; call p7; call p4; skip;", "if b { call p8; call p7; call p4; }", "while b { if b { call p8; } else { call p8; } }",
			"call p9;", "call p14;", "if b { call p14; } else { call p14; }", strings.Repeat("call p14; ", 100)},
	} {
		for _, main := range mains {
			counts(t, main, right(t, "var b: bool; proc none { } "+doubling("skip;", 14, 2)+"main { "+main+" }"), n)
		}
	}
}

// TestWithout has programs of many statements that call nothing: of as many as may be printed, not all may be inlined.
func TestWithout(t *testing.T) {
	for n, want := range map[int]int{0: 0, 1: 1, 399: 399, 400: 400, 401: 401, 402: 401, 510: 401} {
		counts(t, fmt.Sprint(n, " statements"), right(t, "main { "+strings.Repeat("skip;", n)+" }"), want)
	}
	refused(t, "511 statements", read(t, "main { "+strings.Repeat("skip;", 511)+" }"))
}

// TestNothing has calls that would take for ever to follow, though in the end nothing stands there.
func TestNothing(t *testing.T) {
	counts(t, "15 levels of nothing", right(t, doubling("", 15, 16)+"main { call p15; skip; call p15; }"), 1)
	counts(t, "15 levels of something", right(t, doubling("skip;", 15, 16)+"main { call p15; }"), 401)
	counts(t, "15 levels that nobody calls", right(t, doubling("skip;", 15, 16)+"main { call p1; }"), 16)
	counts(t, "something beside nothing", right(t, "proc q { call p14; skip; call p14; } "+doubling("", 14, 16)+"main { call q; call p14; call q; }"), 2)
}

// TestRefused has a program for each of check's errors.
func TestRefused(t *testing.T) {
	for _, src := range []string{
		"main { call x; }",
		"main { x = 1; }",
		"var x: int; main { x = true; }",
		"var x: int; main { x = input(2, 1); }",
		"var x: int; var x: int; main { }",
		"var a: mode; main { }",
		"proc p { call p; } main { }",
		"proc p { call q; } proc q { call r; } proc r { call q; } main { call p; }",
		"proc p { skip; } proc p { skip; } main { call p; }",
		"proc p { call x; } main { skip; }",
		"var a: int; var b: int; var c: int; var d: int; var e: int; var f: int; var g: int; main { }",
		"enum e { a, b, c, d, f, g, h, i, j } main { skip; }",
	} {
		refused(t, src, read(t, src))
	}
	skip := []tree.Stmt{{Op: "skip"}}
	refused(t, "a call with a block", tree.Prog{Procs: []tree.Proc{{Name: "p"}}, Main: []tree.Stmt{{Op: "call", Name: "p", A: skip}}})
	refused(t, "no Op", tree.Prog{Main: []tree.Stmt{{}}})
	refused(t, "a procedure without a name", tree.Prog{Procs: make([]tree.Proc, 1), Main: skip})
	refused(t, "17 procedures", tree.Prog{Procs: make([]tree.Proc, 17), Main: skip})
}

// TestDeep has 2^16 levels, the most that is promised anything of.
func TestDeep(t *testing.T) {
	var l []tree.Stmt
	for i := range 1 << 16 {
		l = []tree.Stmt{{Op: "if", E: []tree.Expr{{Op: "true"}}, A: l}, {Op: "call", Name: fmt.Sprint(i)}}
	}
	if names := Calls(l); len(names) != 1<<16 || names[0] != "0" || names[1<<16-1] != "65535" {
		t.Errorf("P15.1: of 2^16 levels Calls are %d", len(names))
	}
	refused(t, "2^16 levels", tree.Prog{Main: l})
	e := tree.Expr{Op: "true"}
	for range 1 << 16 {
		e = tree.Expr{Op: "not", L: []tree.Expr{e}}
	}
	refused(t, "an expression of 2^16 levels", tree.Prog{Main: []tree.Stmt{{Op: "assert", E: []tree.Expr{e}}}})
}

// again fails, if what is inlined may not be, though it is neither too deep nor too long, or isn't the same once more.
func again(t *testing.T, q tree.Prog) {
	t.Helper()
	_, at, e := check.Check(q)
	if small := tree.Depth(q.Main) < api.MaxDepth && len(tree.Print(q)) <= api.MaxSource; small != (e == api.OK) {
		t.Errorf("P15.4: what is inlined: %v at %d:\n%s", e, at, tree.Print(q))
	}
	if e != api.OK {
		refused(t, "what is inlined", q)
		return
	}
	r, e := Inline(q)
	if e != api.OK || sign(r) != sign(q) {
		t.Errorf("P15.4: inlined once more: %v, and\n%s, not\n%s", e, tree.Print(r), tree.Print(q))
	}
	if n := len(stmtsOf(q.Main)); Many(q) != n {
		t.Errorf("P15.4: inlined Many is %d, not %d", Many(q), n)
	}
}

// nested is a procedure with no block, and others that each call the one ahead of them in so many blocks within one another.
func nested(levels, blocks int) string {
	src := "var b: bool; proc p0 { skip; } "
	for i := range levels {
		src += fmt.Sprintf("proc p%d { %scall p%d; %s} ", i+1, strings.Repeat("while b { ", blocks), i, strings.Repeat("} ", blocks))
	}
	return src
}

func TestAgain(t *testing.T) {
	const some = "var xxxxxxxxxxxxxxxx: int; proc p { xxxxxxxxxxxxxxxx = xxxxxxxxxxxxxxxx + xxxxxxxxxxxxxxxx; } proc q { call p; call p; call p; call p; } "
	for src, want := range map[string]api.Errno{
		"main { }":                                                                      api.OK,
		"proc p { skip; } main { call p; }":                                             api.OK,
		nested(1, 14) + "main { call p1; }":                                             api.OK,
		nested(2, 7) + "main { call p2; }":                                              api.OK,
		nested(14, 1) + "main { call p14; }":                                            api.OK,
		nested(1, 14) + "main { while b { call p1; } }":                                 api.ErrCheckMany,
		nested(3, 5) + "main { call p3; }":                                              api.ErrCheckMany,
		nested(5, 14) + "main { call p5; }":                                             api.ErrCheckMany,
		some + "main { " + strings.Repeat("call q; ", 17) + "}":                         api.OK,
		some + "main { " + strings.Repeat("call q; ", 18) + "}":                         api.ErrCheckMany,
		doubling("skip;", 8, 2) + "main { call p8; call p7; call p4; }":                 api.OK,
		"enum e { a, b } var m: e; proc p { m = b; } main { while m == a { call p; } }": api.OK,
	} {
		q, e := Inline(right(t, src))
		if e != api.OK {
			t.Errorf("P15.3: %q: %v", src, e)
		}
		if _, _, e := check.Check(q); e != want {
			t.Errorf("P15.4: %q: what is inlined: %v, not %v", src, e, want)
		}
		again(t, q)
	}
}

// alike fails, if a program that may be is told otherwise than by the model.
func alike(t *testing.T, p tree.Prog) {
	t.Helper()
	for _, l := range append([][]tree.Stmt{p.Main}, bodiesOf(p)...) {
		if got, want := Calls(l), modelCalls(l); !slices.Equal(got, want) {
			t.Fatalf("P15.1: Calls are %q, not %q:\n%s", got, want, tree.Print(p))
		}
	}
	if got, want := Order(p), modelOrder(p); !slices.Equal(got, want) {
		t.Fatalf("P15.1: Order is %q, not %q:\n%s", got, want, tree.Print(p))
	}
	want := modelMany(p)
	counts(t, "a program:\n"+tree.Print(p), p, want)
	if want > 400 {
		return
	}
	q, _ := Inline(p)
	if w := modelInline(p); sign(q) != sign(w) {
		t.Fatalf("P15.3: %s, not %s:\n%s", sign(q), sign(w), tree.Print(p))
	}
	again(t, q)
}

func bodiesOf(p tree.Prog) [][]tree.Stmt {
	var l [][]tree.Stmt
	for _, q := range p.Procs {
		l = append(l, q.Body)
	}
	return l
}

func TestModel(t *testing.T) {
	right, called, long := 0, 0, 0
	for seed := range 1500 {
		p := newProg(newDice(seed), 5)
		if _, _, e := check.Check(p); e != api.OK {
			refused(t, "a program", p)
			continue
		}
		right++
		called += min(1, len(Calls(p.Main)))
		long += Many(p) / 401
		alike(t, p)
	}
	if right < 1000 || called < 500 || long < 20 {
		t.Errorf("of 1500 programs %d may be, %d call, %d are too long", right, called, long)
	}
}

// TestOwn writes into all that is told: what was given, and what is told of it later, stays (R5, R6).
func TestOwn(t *testing.T) {
	for seed := range 300 {
		p := newProg(newDice(seed), 5)
		if Many(p) > 400 {
			continue
		}
		before := sign(p)
		q, _ := Inline(p)
		want := sign(q)
		order, calls := Order(p), Calls(p.Main)
		overwrite(q)
		for _, l := range [][]string{order, calls} {
			for i := range l {
				l[i] = "spoiled"
			}
		}
		if sign(p) != before {
			t.Fatalf("R5: what was given is another one: %s, not %s", sign(p), before)
		}
		if q, _ := Inline(p); sign(q) != want || slices.Contains(Order(p), "spoiled") || slices.Contains(Calls(p.Main), "spoiled") {
			t.Fatalf("R6: what is told later is another one: %s, not %s", sign(q), want)
		}
	}
}

// TestApart writes into what stands in one call's place: what stands in another one's stays.
func TestApart(t *testing.T) {
	p := right(t, "var b: bool; proc q { b = !b; } proc p { while !b { call q; } } main { call p; call p; call q; }")
	q, _ := Inline(p)
	want := sign(tree.Prog{Main: q.Main[1:]})
	overwriteBlock(q.Main[:1])
	if got := sign(tree.Prog{Main: q.Main[1:]}); got != want {
		t.Errorf("R6: %s, not %s", got, want)
	}
}
