package tree

import (
	"fmt"
	"math"
	"strings"
	"testing"

	"helmsman/api"
)

// How many levels of nesting the document asks for.
const levels = 1 << 16

func num(n int) Expr { return Expr{Op: "num", N: n} }

func name(s string) Expr { return Expr{Op: "name", Name: s} }

func of(op string, l ...Expr) Expr { return Expr{Op: op, L: l} }

func at(s string, l ...Expr) Expr { return Expr{Op: "at", Name: s, L: l} }

func stmt(op, name string, l ...Expr) Stmt { return Stmt{Op: op, Name: name, E: l} }

func block(l ...Stmt) []Stmt { return l }

// told fails, if an expression has another Text than this.
func told(t *testing.T, e Expr, want string) {
	t.Helper()
	if s := Text(e); s != want {
		t.Errorf("P12.1: Text of %v is %q, not %q", e, s, want)
	}
}

// printed fails, if a program is printed otherwise than by these lines.
func printed(t *testing.T, p Prog, lines ...string) {
	t.Helper()
	if s, want := Print(p), strings.Join(lines, "\n")+"\n"; s != want {
		t.Errorf("P12.2: Print of %v is\n%s, not\n%s", p, s, want)
	}
}

// TestChapter goes through the chapter's example.
func TestChapter(t *testing.T) {
	told(t, of("-", of("neg", name("x")), of("+", num(1), at("a", name("i")))), "(-x) - (1 + a[i])")
}

func TestText(t *testing.T) {
	told(t, num(0), "0")
	told(t, num(7), "7")
	told(t, num(api.Max), "1152921504606846976")
	told(t, num(math.MaxInt), "9223372036854775807")
	told(t, name("x"), "x")
	told(t, name("num"), "num")
	told(t, name("\x00\xff é"), "\x00\xff é")
	told(t, Expr{Op: "true"}, "true")
	told(t, Expr{Op: "false"}, "false")
	told(t, at("a", num(3)), "a[3]")
	told(t, at("a", at("b", at("c", name("i")))), "a[b[c[i]]]")
	told(t, of("neg", num(5)), "-5")
	told(t, of("neg", of("neg", of("neg", num(5)))), "-(-(-5))")
	told(t, of("not", of("not", name("b"))), "!(!b)")
	told(t, of("not", Expr{Op: "true"}), "!true")
	told(t, of("neg", at("a", num(0))), "-a[0]")
	told(t, of("||", of("&&", name("a"), name("b")), of("||", name("c"), name("d"))), "(a && b) || (c || d)")
	told(t, of("-", num(1), of("-", num(2), num(3))), "1 - (2 - 3)")
	told(t, of("-", of("-", num(1), num(2)), num(3)), "(1 - 2) - 3")
	told(t, of("==", of("not", name("b")), of("<", name("x"), num(3))), "(!b) == (x < 3)")
	// At is of no account.
	told(t, Expr{Op: "neg", L: []Expr{{Op: "num", N: 5, At: 9}}, At: 8}, "-5")
}

// TestTextClosed: which parts are closed, of each Op, at each place.
func TestTextClosed(t *testing.T) {
	x := name("x")
	parts := []Expr{num(12), x, at("a", of("neg", x)), {Op: "true"}, {Op: "false"}, of("neg", x), of("not", x)}
	texts := []string{"12", "x", "a[-x]", "true", "false", "-x", "!x"}
	closed := append(append([]string{}, texts[:5]...), "(-x)", "(!x)")
	for _, op := range twoOps() {
		parts = append(parts, of(op, x, num(1)))
		texts = append(texts, "x "+op+" 1")
		closed = append(closed, "(x "+op+" 1)")
	}
	for i, a := range parts {
		told(t, a, texts[i])
		told(t, of("neg", a), "-"+closed[i])
		told(t, of("not", a), "!"+closed[i])
		told(t, at("b", a), "b["+texts[i]+"]")
		for j, b := range parts {
			for _, op := range twoOps() {
				told(t, of(op, a, b), closed[i]+" "+op+" "+closed[j])
			}
		}
	}
}

// TestTextApart: of right expressions of at most three levels no two have one Text.
func TestTextApart(t *testing.T) {
	l := []Expr{num(0), num(1), name("x"), name("a"), {Op: "true"}}
	for range 2 {
		next := append([]Expr{}, l[:5]...)
		for _, a := range l {
			next = append(next, of("neg", a), of("not", a), at("a", a))
			for _, b := range l {
				next = append(next, of("+", a, b), of("-", a, b), of("<=", a, b), of("&&", a, b))
			}
		}
		l = next
	}
	seen := map[string]Expr{}
	for _, e := range l {
		s := Text(e)
		if other, is := seen[s]; is {
			t.Fatalf("P12.1: Text of both %v and %v is %q", e, other, s)
		}
		seen[s] = e
	}
}

func TestTextMany(t *testing.T) {
	for seed := range 3000 {
		e := newDice(seed).expr(7)
		told(t, e, modelText(e))
	}
}

// TestTextWrong: of what is no expression something is told, too: what there is of it.
func TestTextWrong(t *testing.T) {
	x := name("x")
	told(t, Expr{}, "")
	told(t, num(-5), "-5")
	told(t, num(math.MinInt), "-9223372036854775808")
	told(t, name(""), "")
	told(t, at("a"), "a[]")
	told(t, at("a", x, x), "a[x]")
	told(t, of("neg"), "-")
	told(t, of("not"), "!")
	told(t, of("neg", x, x), "-x")
	told(t, of("+"), " + ")
	told(t, of("+", x), "x + ")
	told(t, of("+", of("neg"), x, x), "(-) + x")
	told(t, of("%", x, x), "%")
	told(t, of("neg", of("%", x, x)), "-%")
	told(t, of("true", x), "true")
	told(t, Expr{Op: "num", Name: "y", N: 3, L: []Expr{x}}, "3")
	told(t, Expr{Op: "name", Name: "y", N: 3, L: []Expr{x}}, "y")
}

func TestPrintEmpty(t *testing.T) {
	printed(t, Prog{}, "main {", "}")
	printed(t, Prog{[]Enum{}, []Var{}, []Proc{}, block()}, "main {", "}")
	printed(t, Prog{Enums: []Enum{{}}, Vars: []Var{{}}, Procs: []Proc{{}}}, "enum  {  }", "var : ;", "proc  {", "}", "main {", "}")
}

func TestPrintDeclared(t *testing.T) {
	p := Prog{
		Enums: []Enum{{"none", nil}, {"empty", []string{}}, {"one", []string{"a"}}, {"two", []string{"b", "c"}}, {"three", []string{"d", "e", "f"}}},
		Vars:  []Var{{"x", "int", 0}, {"a", "int", 1}, {"b", "bool", 16}, {"c", "mode", -1}, {"d", "int", math.MinInt}},
		Procs: []Proc{{"p", block(stmt("skip", ""))}, {"q", nil}},
		Main:  block(stmt("call", "p")),
	}
	printed(t, p, "enum none {  }", "enum empty {  }", "enum one { a }", "enum two { b, c }", "enum three { d, e, f }",
		"var x: int;", "var a: int[1];", "var b: bool[16];", "var c: mode;", "var d: int;",
		"proc p {", "  skip;", "}", "proc q {", "}", "main {", "  call p;", "}")
}

// simple are the statements without a block, and how each is printed.
func simple() ([]Stmt, []string) {
	sum := of("+", name("x"), num(1))
	return block(
			stmt("set", "x", sum), stmt("set", "y", of("neg", sum)),
			stmt("put", "a", sum, of("not", name("b"))),
			stmt("input", "m"), stmt("input", "x", of("neg", num(3)), num(4)),
			stmt("assert", "", sum), stmt("assume", "", Expr{Op: "true"}), stmt("call", "p"), stmt("skip", "")),
		[]string{"x = x + 1;", "y = -(x + 1);", "a[x + 1] = !b;", "m = input;", "x = input(-3, 4);", "assert x + 1;", "assume true;", "call p;", "skip;"}
}

// TestPrintSimple: each statement alone, in main and in a procedure, and all of them behind one another.
func TestPrintSimple(t *testing.T) {
	l, lines := simple()
	all := []string{"main {"}
	for i, s := range l {
		printed(t, Prog{Main: block(s)}, "main {", "  "+lines[i], "}")
		printed(t, Prog{Procs: []Proc{{"p", block(s)}}}, "proc p {", "  "+lines[i], "}", "main {", "}")
		s.At = 99
		printed(t, Prog{Main: block(s)}, "main {", "  "+lines[i], "}")
		all = append(all, "  "+lines[i])
	}
	printed(t, Prog{Main: l}, append(all, "}")...)
}

// TestPrintBlocks: with statements and without, one within the other.
func TestPrintBlocks(t *testing.T) {
	b, skip := of("not", name("b")), stmt("skip", "")
	branch := func(a, b []Stmt) Stmt { return Stmt{Op: "if", E: []Expr{name("b")}, A: a, B: b} }
	loop := func(a []Stmt) Stmt { return Stmt{Op: "while", E: []Expr{b}, A: a} }
	printed(t, Prog{Main: block(branch(nil, nil))}, "main {", "  if b {", "  }", "}")
	printed(t, Prog{Main: block(branch(block(), block()))}, "main {", "  if b {", "  }", "}")
	printed(t, Prog{Main: block(branch(block(skip), nil))}, "main {", "  if b {", "    skip;", "  }", "}")
	printed(t, Prog{Main: block(branch(nil, block(skip)))}, "main {", "  if b {", "  } else {", "    skip;", "  }", "}")
	printed(t, Prog{Main: block(branch(block(skip, skip), block(skip)), skip)}, "main {", "  if b {", "    skip;", "    skip;", "  } else {", "    skip;", "  }", "  skip;", "}")
	printed(t, Prog{Main: block(loop(nil))}, "main {", "  while !b {", "  }", "}")
	printed(t, Prog{Main: block(loop(block(skip)), skip)}, "main {", "  while !b {", "    skip;", "  }", "  skip;", "}")
	printed(t, Prog{Procs: []Proc{{"p", block(loop(block(branch(block(loop(nil)), block(branch(nil, block(skip)))))))}}},
		"proc p {", "  while !b {", "    if b {", "      while !b {", "      }", "    } else {", "      if b {", "      } else {", "        skip;", "      }", "    }", "  }", "}", "main {", "}")
}

func TestPrintMany(t *testing.T) {
	for seed := range 2000 {
		p := newDice(seed).prog()
		if s, want := Print(p), modelPrint(p); s != want {
			t.Fatalf("P12.2: Print of %v is\n%s, not\n%s", p, s, want)
		}
	}
}

// TestPrintWrong: of what is no statement something is told, too: what there is of it.
func TestPrintWrong(t *testing.T) {
	x, skip := name("x"), block(stmt("skip", ""))
	for _, s := range []struct {
		s    Stmt
		line string
	}{
		{Stmt{}, ";"}, {stmt("for", "x", x), "for;"}, {Stmt{Op: "skip", Name: "x", A: skip, B: skip}, "skip;"},
		{stmt("set", "x"), "x = ;"}, {stmt("set", "x", x, x), "x = x;"},
		{stmt("put", "a"), "a[] = ;"}, {stmt("put", "a", x), "a[x] = ;"}, {stmt("put", "a", x, x, x), "a[x] = x;"},
		{stmt("input", "x", x), "x = input(x, );"}, {stmt("input", "x", x, x, x), "x = input(x, x);"},
		{stmt("assert", ""), "assert ;"}, {stmt("assume", "y", x, x), "assume x;"}, {stmt("call", ""), "call ;"},
	} {
		printed(t, Prog{Main: block(s.s)}, "main {", "  "+s.line, "}")
	}
	printed(t, Prog{Main: block(Stmt{Op: "if"}, Stmt{Op: "while", Name: "x", E: []Expr{x, x}, B: skip})}, "main {", "  if  {", "  }", "  while x {", "  }", "}")
}

func TestSameExpr(t *testing.T) {
	e := of("+", at("a", num(1)), name("x"))
	for i, x := range []struct {
		e    Expr
		want bool
	}{
		{e, true},
		{Expr{Op: "+", L: []Expr{{Op: "at", Name: "a", L: []Expr{{Op: "num", N: 1, At: -7, L: []Expr{}}}, At: 3}, {Op: "name", Name: "x", At: 2}}, At: 1}, true},
		{of("-", e.L...), false},
		{of("+", e.L[1], e.L[0]), false},
		{of("+", e.L[0]), false},
		{of("+", e.L[0], e.L[1], e.L[1]), false},
		{of("+", e.L[0], name("y")), false},
		{of("+", at("b", num(1)), name("x")), false},
		{of("+", at("a", num(2)), name("x")), false},
		{of("+", at("a", of("num", num(1))), name("x")), false},
		// What an Op has not is of account, too.
		{Expr{Op: "+", Name: "q", L: e.L}, false},
		{Expr{Op: "+", N: 1, L: e.L}, false},
		{of("+", at("a", num(1)), Expr{Op: "name", Name: "x", N: 1}), false},
		{of("+", at("a", num(1)), Expr{Op: "name", Name: "x", L: []Expr{{}}}), false},
		{of("+", Expr{Op: "at", Name: "a", N: 1, L: []Expr{num(1)}}, name("x")), false},
		{of("+", at("a", Expr{Op: "num", Name: "q", N: 1}), name("x")), false},
		{Expr{}, false},
	} {
		if SameExpr(e, x.e) != x.want || SameExpr(x.e, e) != x.want || !SameExpr(x.e, x.e) {
			t.Error("P12.3: SameExpr:", i, x.e)
		}
	}
	if !SameExpr(Expr{}, Expr{At: 5, L: []Expr{}}) || SameExpr(Expr{}, Expr{Op: " "}) || SameExpr(name("X"), name("x")) {
		t.Error("P12.3: SameExpr of little")
	}
}

// TestSameEach: a program is no more the same, if any one thing of it is another one.
func TestSameEach(t *testing.T) {
	skip := stmt("skip", "")
	p := Prog{
		Enums: []Enum{{"m", []string{"a", "b"}}, {"n", []string{"c"}}},
		Vars:  []Var{{"x", "int", 0}, {"y", "int", 3}},
		Procs: []Proc{{"p", block(stmt("set", "x", num(1)))}, {"q", nil}},
		Main:  block(Stmt{Op: "if", E: []Expr{name("b")}, A: block(skip), B: block(stmt("call", "p"))}, skip),
	}
	for i, change := range []func(q *Prog){
		func(q *Prog) { q.Enums[0].Name = "k" },
		func(q *Prog) { q.Enums[0].L[1] = "k" },
		func(q *Prog) { q.Enums[0].L[0], q.Enums[0].L[1] = "b", "a" },
		func(q *Prog) { q.Enums[1].L = nil },
		func(q *Prog) { q.Enums[1].L = append(q.Enums[1].L, "k") },
		func(q *Prog) { q.Enums[0], q.Enums[1] = q.Enums[1], q.Enums[0] },
		func(q *Prog) { q.Enums = nil },
		func(q *Prog) { q.Enums = append(q.Enums, Enum{}) },
		func(q *Prog) { q.Vars[0].Name = "k" },
		func(q *Prog) { q.Vars[0].Type = "bool" },
		func(q *Prog) { q.Vars[0].Len = -1 },
		func(q *Prog) { q.Vars[0], q.Vars[1] = q.Vars[1], q.Vars[0] },
		func(q *Prog) { q.Vars = q.Vars[:1] },
		func(q *Prog) { q.Vars = append(q.Vars, Var{}) },
		func(q *Prog) { q.Procs[0].Name = "k" },
		func(q *Prog) { q.Procs[0].Body[0].E[0].N = 2 },
		func(q *Prog) { q.Procs[0].Body = nil },
		func(q *Prog) { q.Procs[1].Body = block(skip) },
		func(q *Prog) { q.Procs[0], q.Procs[1] = q.Procs[1], q.Procs[0] },
		func(q *Prog) { q.Procs = q.Procs[:1] },
		func(q *Prog) { q.Procs = append(q.Procs, Proc{}) },
		func(q *Prog) { q.Main[0].Op = "while" },
		func(q *Prog) { q.Main[0].Name = "k" },
		func(q *Prog) { q.Main[0].E[0].Name = "k" },
		func(q *Prog) { q.Main[0].E = nil },
		func(q *Prog) { q.Main[0].E = append(q.Main[0].E, Expr{}) },
		func(q *Prog) { q.Main[0].A[0].Op = "" },
		func(q *Prog) { q.Main[0].A = nil },
		func(q *Prog) { q.Main[0].B[0].Name = "q" },
		func(q *Prog) { q.Main[0].B = nil },
		func(q *Prog) { q.Main[0].A, q.Main[0].B = q.Main[0].B, q.Main[0].A },
		func(q *Prog) { q.Main[1].Name = "k" },
		func(q *Prog) { q.Main[1].A = block(skip) },
		func(q *Prog) { q.Main[1].B = block(skip) },
		func(q *Prog) { q.Main = q.Main[:1] },
		func(q *Prog) { q.Main = append(q.Main, Stmt{}) },
		func(q *Prog) { q.Main[0], q.Main[1] = q.Main[1], q.Main[0] },
	} {
		q := copyProg(p)
		if !Same(p, q) || !Same(q, p) {
			t.Fatal("P12.3: Same of a copy is false")
		}
		change(&q)
		if Same(p, q) || Same(q, p) || !Same(q, q) {
			t.Error("P12.3: Same of what is another one is true:", i)
		}
	}
	if !Same(Prog{}, Prog{[]Enum{}, []Var{}, []Proc{}, []Stmt{}}) {
		t.Error("P12.3: Same: an empty row is as good as none")
	}
}

// TestSameMany: by what is told of all that is of account, of programs that are nearly the same.
func TestSameMany(t *testing.T) {
	same := 0
	for seed := range 3000 {
		d := newDice(seed)
		p := d.wild()
		q := copyProg(p)
		stmts, exprs := everything(q)
		if len(stmts) > 0 && d(2) == 0 {
			d.spoilStmt(stmts[d(len(stmts))])
		} else if len(exprs) > 0 {
			e := exprs[d(len(exprs))]
			before := *e
			d.spoilExpr(e)
			if want := signOf(before, false) == signOf(*e, false); SameExpr(before, *e) != want {
				t.Fatal("P12.3: SameExpr is", !want, before, *e)
			}
		}
		want := signOfProg(p, false) == signOfProg(q, false)
		if Same(p, q) != want || Same(q, p) != want {
			t.Fatal("P12.3: Same is", !want, p, q)
		}
		if want {
			same++
		}
	}
	if same < 300 || same > 2700 {
		t.Error("of 3000 programs so many were the same:", same)
	}
}

// TestPrintedAlike: what is the same, right or wrong, is printed alike.
func TestPrintedAlike(t *testing.T) {
	for seed := range 3000 {
		d := newDice(seed)
		p := d.prog()
		if seed%2 == 0 {
			p = d.wild()
		}
		q := moved(p)
		if !Same(p, q) || !Same(q, p) || Print(p) != Print(q) {
			t.Fatalf("P12.4: of the same program Print is\n%s, and\n%s", Print(p), Print(q))
		}
		_, a := everything(p)
		_, b := everything(q)
		for i := range a {
			if !SameExpr(*a[i], *b[i]) || Text(*a[i]) != Text(*b[i]) {
				t.Fatal("P12.4: Text of the same expression is", Text(*a[i]), "and", Text(*b[i]))
			}
		}
	}
}

// TestPrintedApart: right programs that are not the same are not printed alike.
func TestPrintedApart(t *testing.T) {
	seen := map[string]Prog{}
	for seed := range 3000 {
		p := newDice(seed).prog()
		s := Print(p)
		if other, is := seen[s]; is && !Same(p, other) {
			t.Fatalf("P12.2: of two programs Print is\n%s", s)
		}
		seen[s] = p
	}
}

func TestDeep(t *testing.T) {
	x := name("x")
	for i, e := range []struct {
		e    Expr
		want int
	}{
		{Expr{}, 1}, {x, 1}, {num(9), 1}, {of("neg"), 1},
		{of("neg", x), 2}, {at("a", x), 2}, {of("+", x, x), 2},
		{of("+", of("neg", x), x), 3}, {of("+", x, of("neg", x)), 3}, {of("+", of("neg", of("neg", x)), of("neg", x)), 4},
		{of("true", x, of("false", x), x), 3}, {of("%", Expr{}, Expr{}, of("", Expr{})), 3},
	} {
		if n := Deep(e.e); n != e.want {
			t.Error("P12.3: Deep:", i, n)
		}
	}
}

func TestDepth(t *testing.T) {
	skip := stmt("skip", "")
	in := func(op string, a, b []Stmt) []Stmt { return block(Stmt{Op: op, A: a, B: b}) }
	for i, x := range []struct {
		l    []Stmt
		want int
	}{
		{nil, 0}, {block(), 0}, {block(skip), 1}, {block(skip, skip, skip), 1}, {block(Stmt{}), 1},
		{in("if", nil, nil), 1}, {in("while", nil, nil), 1},
		{in("if", block(skip), nil), 2}, {in("if", nil, block(skip)), 2}, {in("while", block(skip), nil), 2},
		{in("if", in("if", block(skip), nil), block(skip)), 3}, {in("if", block(skip), in("if", nil, block(skip))), 3},
		{append(in("if", block(skip), nil), skip), 2}, {append(block(skip), in("while", in("while", block(skip), nil), nil)...), 3},
		{in("skip", block(skip), nil), 2}, {in("while", nil, block(skip)), 2}, {block(stmt("set", "x", of("neg", of("neg", num(1))))), 1},
	} {
		if n := Depth(x.l); n != x.want {
			t.Error("P12.3: Depth:", i, n)
		}
	}
}

func TestSized(t *testing.T) {
	l, _ := simple() // 9 statements; expressions: 3, 4, 3 and 2, 0, 2 and 1, 3, 1, 0, 0
	for i, x := range []struct {
		p    Prog
		want int
	}{
		{Prog{}, 0}, {Prog{Enums: []Enum{{"m", []string{"a"}}}, Vars: []Var{{"x", "int", 3}}, Procs: []Proc{{"p", nil}}}, 0},
		{Prog{Main: l}, 28}, {Prog{Procs: []Proc{{"p", l}}}, 28}, {Prog{Procs: []Proc{{"p", l}, {"q", l}}, Main: l}, 84},
		{Prog{Main: block(Stmt{Op: "if", E: []Expr{name("b")}, A: l, B: l})}, 58}, {Prog{Main: block(Stmt{Op: "skip", A: l, B: block(Stmt{A: l})})}, 58},
		{Prog{Main: block(stmt("call", "p"))}, 1}, {Prog{Main: block(stmt("", "", Expr{}, of("true", Expr{}, Expr{})))}, 5},
	} {
		if n := Sized(x.p); n != x.want {
			t.Error("P12.3: Sized:", i, n)
		}
	}
	for seed := range 1000 {
		p := newDice(seed).wild()
		if stmts, exprs := everything(p); Sized(p) != len(stmts)+len(exprs) {
			t.Fatal("P12.3: Sized is", Sized(p), "not", len(stmts)+len(exprs))
		}
	}
}

// TestKept: no call changes what it is given.
func TestKept(t *testing.T) {
	for seed := range 500 {
		p := newDice(seed).wild()
		before := signOfProg(p, true)
		Print(p)
		Same(p, moved(p))
		Depth(p.Main)
		Sized(p)
		_, exprs := everything(p)
		for _, e := range exprs {
			Text(*e)
			SameExpr(*e, *e)
			Deep(*e)
		}
		if after := signOfProg(p, true); after != before {
			t.Fatalf("R5: a program was %s, and is %s", before, after)
		}
	}
}

// TestLevelsOfExpr: as many levels as the document asks for.
func TestLevelsOfExpr(t *testing.T) {
	for _, x := range []struct {
		op                 string
		first, open, close string
	}{{"neg", "-x", "-(", ")"}, {"+", "x + y", "(", ") + y"}, {"at", "a[x]", "a[", "]"}} {
		e := name("x")
		for range levels - 1 {
			l := []Expr{e}
			if x.op == "+" {
				l = append(l, name("y"))
			}
			e = Expr{Op: x.op, L: l}
			if x.op == "at" {
				e.Name = "a"
			}
		}
		if s := Text(e); s != strings.Repeat(x.open, levels-2)+x.first+strings.Repeat(x.close, levels-2) {
			t.Errorf("P12.1: Text of many levels of %s has %d bytes", x.op, len(s))
		}
		if Deep(e) != levels || !SameExpr(e, e) || SameExpr(e, e.L[0]) {
			t.Error("P12.3: of many levels of", x.op)
		}
	}
}

// TestLevelsOfStmt: as many levels as the document asks for (of Print only some: it would have too many bytes).
func TestLevelsOfStmt(t *testing.T) {
	l := block(stmt("skip", ""))
	for n := 1; n < levels; n++ {
		l = block(Stmt{Op: "while", E: []Expr{name("b")}, A: l})
		if n == 500 {
			p := Prog{Main: l}
			if Print(p) != modelPrint(p) {
				t.Error("P12.2: Print of", n, "levels")
			}
		}
	}
	p := Prog{Main: l}
	if Depth(l) != levels || Sized(p) != 2*levels-1 || !Same(p, p) || Same(p, Prog{Main: l[0].A}) {
		t.Error("P12.3: of many levels:", Depth(l), Sized(p))
	}
}

// TestAgain: the same calls tell the same.
func TestAgain(t *testing.T) {
	for seed := range 200 {
		p, q := newDice(seed).wild(), newDice(seed).wild()
		if a, b := fmt.Sprint(Print(p), Sized(p), Depth(p.Main)), fmt.Sprint(Print(q), Sized(q), Depth(q.Main)); a != b || Print(p) != Print(p) {
			t.Fatal("R7: the same program tells", a, "and", b)
		}
	}
}
