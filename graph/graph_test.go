package graph

import (
	"fmt"
	"slices"
	"strings"
	"testing"

	"helmsman/api"
	"helmsman/check"
	"helmsman/inline"
	"helmsman/parse"
	"helmsman/tree"
)

const vars = "enum mode { idle, run } var m: mode; var b: bool; var c: bool; var x: int; var a: int[3]; "

func read(t *testing.T, src string) tree.Prog {
	t.Helper()
	p, at, e := parse.Parse(src)
	if e != api.OK {
		t.Fatalf("%q is no program: %v at %d", src, e, at)
	}
	return p
}

// lowers fails, if a program has another graph than these edges, and this exit.
func lowers(t *testing.T, src string, exit, nodes int, want ...string) {
	t.Helper()
	g, e := Lower(read(t, src))
	text := strings.Join(append(want, ""), "\n")
	if e != api.OK || Text(g) != text || g.Exit != exit || g.Nodes != nodes {
		t.Errorf("P16.1: %q: %v, %d nodes, exit %d,\n%snot %d nodes, exit %d,\n%s", src, e, g.Nodes, g.Exit, Text(g), nodes, exit, text)
	}
	follows(t, g)
}

// refused fails, if a program isn't refused with this error.
func refused(t *testing.T, what string, p tree.Prog, want api.Errno) {
	t.Helper()
	if g, e := Lower(p); e != want || sign(g) != sign(Graph{}) {
		t.Errorf("P16.1: %s: %v, and %d nodes, exit %d, %d edges, not %v alone", what, e, g.Nodes, g.Exit, len(g.Edges), want)
	}
}

// TestChapter goes through the chapter's example.
func TestChapter(t *testing.T) {
	lowers(t, "var b: bool; main { while b { skip; } }", 4, 5, "0 1 skip", "1 2 test + b", "2 3 skip", "3 1 skip", "1 4 test - b")
}

func TestLower(t *testing.T) {
	for _, row := range []struct {
		procs, main string
		exit        int
		edges       string
	}{
		{"", "", 0, ""},
		{"", "skip;", 1, "0 1 skip"},
		{"", "x = -x; a[x] = 1 + 2; x = input(-1, 9); m = input; assert m == run;", 5,
			"0 1 set x -x, 1 2 put a x 1 + 2, 2 3 input x -1 9, 3 4 input m, 4 5 assert m == run"},
		{"", "assume b; assume !b;", 2, "0 1 test + b, 1 2 test + !b"},
		{"", "if b { }", 3, "0 1 test + b, 0 2 test - b, 1 3 skip, 2 3 skip"},
		{"", "if b { skip; x = 1; }", 5, "0 1 test + b, 1 2 skip, 2 3 set x 1, 0 4 test - b, 3 5 skip, 4 5 skip"},
		{"", "if b { } else { skip; x = 1; }", 5, "0 1 test + b, 0 2 test - b, 2 3 skip, 3 4 set x 1, 1 5 skip, 4 5 skip"},
		{"", "skip; if b { x = 1; } else { x = 2; } skip;", 7,
			"0 1 skip, 1 2 test + b, 2 3 set x 1, 1 4 test - b, 4 5 set x 2, 3 6 skip, 5 6 skip, 6 7 skip"},
		{"", "if b { if c { } } else { while c { } }", 9,
			"0 1 test + b, 1 2 test + c, 1 3 test - c, 2 4 skip, 3 4 skip, 0 5 test - b, 5 6 skip, 6 7 test + c, 7 6 skip, 6 8 test - c, 4 9 skip, 8 9 skip"},
		{"", "while b { }", 3, "0 1 skip, 1 2 test + b, 2 1 skip, 1 3 test - b"},
		{"", "while b { } while c { skip; } skip;", 8,
			"0 1 skip, 1 2 test + b, 2 1 skip, 1 3 test - b, 3 4 skip, 4 5 test + c, 5 6 skip, 6 4 skip, 4 7 test - c, 7 8 skip"},
		{"", "while b { while c { assume b; } }", 7,
			"0 1 skip, 1 2 test + b, 2 3 skip, 3 4 test + c, 4 5 test + b, 5 3 skip, 3 6 test - c, 6 1 skip, 1 7 test - b"},
		{"", "while b { if c { } skip; }", 7,
			"0 1 skip, 1 2 test + b, 2 3 test + c, 2 4 test - c, 3 5 skip, 4 5 skip, 5 6 skip, 6 1 skip, 1 7 test - b"},
		{"proc p { }", "call p; call p;", 0, ""},
		{"proc p { }", "while b { call p; }", 3, "0 1 skip, 1 2 test + b, 2 1 skip, 1 3 test - b"},
		{"proc p { b = c; } proc q { call p; skip; }", "call p; if b { call q; } call p;", 7,
			"0 1 set b c, 1 2 test + b, 2 3 set b c, 3 4 skip, 1 5 test - b, 4 6 skip, 5 6 skip, 6 7 set b c"},
	} {
		edges := strings.Split(row.edges, ", ")
		if row.edges == "" {
			edges = nil
		}
		lowers(t, vars+row.procs+" main { "+row.main+" }", row.exit, row.exit+1, edges...)
	}
}

// TestWhole has a graph with all that Text doesn't tell.
func TestWhole(t *testing.T) {
	b := func(at int) []tree.Expr { return []tree.Expr{{Op: "name", Name: "b", At: at}} }
	g, e := Lower(read(t, "var b: bool; main { b = b; assume b; if b { } while b { } }"))
	want := Graph{Nodes: 9, Exit: 8, Edges: []Edge{
		{From: 0, To: 1, Op: "set", Name: "b", E: b(24), At: 20},
		{From: 1, To: 2, Op: "test", E: b(34), Yes: true, At: 27},
		{From: 2, To: 3, Op: "test", E: b(40), Yes: true, At: 37},
		{From: 2, To: 4, Op: "test", E: b(40), At: 37},
		{From: 3, To: 5, Op: "skip", At: 37},
		{From: 4, To: 5, Op: "skip", At: 37},
		{From: 5, To: 6, Op: "skip", At: 46},
		{From: 6, To: 7, Op: "test", E: b(52), Yes: true, At: 46},
		{From: 7, To: 6, Op: "skip", At: 46},
		{From: 6, To: 8, Op: "test", E: b(52), At: 46},
	}}
	if e != api.OK || sign(g) != sign(want) {
		t.Errorf("P16.1: %v, %+v\nnot %+v", e, g, want)
	}
}

// TestRefused has programs that may not be, and such that are too long.
func TestRefused(t *testing.T) {
	for _, src := range []string{
		"main { x = 1; }",
		"main { call p; }",
		"proc p { call p; } main { skip; }",
		"var x: int; main { if x { } }",
		"var x: bool; var x: bool; main { }",
		"var x: int; main { x = input(2, 1); }",
	} {
		refused(t, src, read(t, src), api.ErrArg)
	}
	refused(t, "no Op", tree.Prog{Main: make([]tree.Stmt, 1)}, api.ErrArg)
	refused(t, "a test, as a statement", tree.Prog{Main: []tree.Stmt{{Op: "test", E: []tree.Expr{{Op: "true"}}}}}, api.ErrArg)
	many := func(n int, l string) string { return strings.Repeat(l, n) }
	refused(t, "wrong, and long", read(t, "main { "+many(401, "skip; ")+"call p; }"), api.ErrArg)
	refused(t, "401 statements", read(t, "main { "+many(401, "skip; ")+"}"), api.ErrInlineLong)
	refused(t, "402 statements, inlined", read(t, "proc p { "+many(201, "skip; ")+"} main { call p; call p; }"), api.ErrInlineLong)
	refused(t, "1603 nodes of 401 statements", read(t, "proc p { "+many(67, "if true{} ")+"} main { call p; call p; call p; call p; call p; call p; }"), api.ErrInlineLong)
	refused(t, "400 statements", read(t, "main { "+many(400, "skip; ")+"}"), api.ErrGraphLong)
	refused(t, "401 nodes of ifs", read(t, "main { "+many(133, "if true{} ")+"skip; }"), api.ErrGraphLong)
	refused(t, "401 nodes of whiles", read(t, "main { skip; "+many(133, "while true{} ")+"}"), api.ErrGraphLong)
	refused(t, "403 nodes", read(t, "proc p { "+many(67, "while true{} ")+"} main { call p; call p; }"), api.ErrGraphLong)
	for _, src := range []string{
		"main { " + many(399, "skip; ") + "}",
		"main { " + many(133, "while true{} ") + "}",
		"main { " + many(66, "if true{} ") + many(67, "while true{} ") + "}",
		"proc p { " + many(66, "if true{} ") + "} main { call p; while true { call p; } }",
	} {
		if g, e := Lower(read(t, src)); e != api.OK || g.Nodes != 400 || g.Exit != 399 {
			t.Errorf("P16.1: %q: %v, %d nodes, exit %d, not 400 nodes, exit 399", src, e, g.Nodes, g.Exit)
		}
	}
}

// TestEdgesOf has any graphs: edges from and to nodes that there are, and that there are not.
func TestEdgesOf(t *testing.T) {
	for seed := range 500 {
		g := newGraph(newDice(seed))
		for node := -2; node < 8; node++ {
			var out, in []Edge
			for _, e := range g.Edges {
				if e.From == node {
					out = append(out, e)
				}
				if e.To == node {
					in = append(in, e)
				}
			}
			if got := Out(g, node); signEdges(got) != signEdges(out) {
				t.Fatalf("P16.2: Out of %d: %+v, not %+v", node, got, out)
			}
			if got := In(g, node); signEdges(got) != signEdges(in) {
				t.Fatalf("P16.2: In of %d: %+v, not %+v", node, got, in)
			}
		}
	}
	if Out(Graph{}, 0) != nil || In(Graph{Nodes: 1}, 0) != nil {
		t.Error("P16.2: of no edges there are some")
	}
}

func TestOutIn(t *testing.T) {
	g, _ := Lower(read(t, vars+"main { while b { if c { skip; } } }"))
	text := func(l []Edge) string { return Text(Graph{Edges: l}) }
	for node, want := range map[int][2]string{
		0: {"0 1 skip\n", ""},
		1: {"1 2 test + b\n1 7 test - b\n", "0 1 skip\n6 1 skip\n"},
		2: {"2 3 test + c\n2 5 test - c\n", "1 2 test + b\n"},
		3: {"3 4 skip\n", "2 3 test + c\n"},
		6: {"6 1 skip\n", "4 6 skip\n5 6 skip\n"},
		7: {"", "1 7 test - b\n"},
		8: {"", ""},
	} {
		if out, in := text(Out(g, node)), text(In(g, node)); out != want[0] || in != want[1] {
			t.Errorf("P16.2: Out of %d is\n%sIn is\n%snot\n%sand\n%s", node, out, in, want[0], want[1])
		}
	}
}

// changes are all ways to make one thing of a graph another one.
func changes(d dice, g Graph) []func(g *Graph) {
	all := []func(g *Graph){
		func(g *Graph) { g.Nodes++ },
		func(g *Graph) { g.Exit-- },
		func(g *Graph) { g.Edges = append(g.Edges, Edge{}) },
	}
	if len(g.Edges) == 0 {
		return all
	}
	i := d(len(g.Edges))
	of := func(change func(e *Edge)) { all = append(all, func(g *Graph) { change(&g.Edges[i]) }) }
	all = append(all, func(g *Graph) { g.Edges = slices.Delete(g.Edges, i, i+1) })
	of(func(e *Edge) { e.From++ })
	of(func(e *Edge) { e.To-- })
	of(func(e *Edge) { e.Op += "t" })
	of(func(e *Edge) { e.Name += "x" })
	of(func(e *Edge) { e.Yes = !e.Yes })
	of(func(e *Edge) { e.At++ })
	of(func(e *Edge) { e.E = append(e.E, tree.Expr{}) })
	if k := len(g.Edges[i].E); k > 0 {
		of(func(e *Edge) { e.E = e.E[:k-1] })
		of(func(e *Edge) { e.E[k-1].N++ })
		of(func(e *Edge) { e.E[k-1].Name += "y" })
		of(func(e *Edge) { e.E[0].Op = "none" })
		of(func(e *Edge) { e.E[0].L = append(e.E[0].L, tree.Expr{}) })
	}
	return all
}

func TestSame(t *testing.T) {
	for seed := range 500 {
		d := newDice(seed)
		g := newGraph(d)
		moved := copyGraph(g)
		for i, e := range moved.Edges {
			for j := range e.E {
				e.E[j].At += 1 + j
				for k := range e.E[j].L {
					e.E[j].L[k].At--
				}
			}
			if len(e.E) == 0 {
				moved.Edges[i].E = []tree.Expr{}
			}
		}
		if !Same(g, g) || !Same(g, moved) || !Same(moved, g) {
			t.Fatalf("P16.2: not the same, though but expressions stood elsewhere: %+v", g)
		}
		for i, change := range changes(d, g) {
			other := copyGraph(g)
			change(&other)
			if Same(g, other) || Same(other, g) {
				t.Fatalf("P16.2: the same, though changed by %d: %+v, %+v", i, g, other)
			}
		}
	}
	if !Same(Graph{}, Graph{Edges: []Edge{}}) {
		t.Error("P16.2: no edges are not the same as none")
	}
}

// TestSameOrder has two graphs whose edges stand in another order.
func TestSameOrder(t *testing.T) {
	a, b := Edge{From: 0, To: 1}, Edge{From: 1, To: 0}
	if Same(Graph{Edges: []Edge{a, b}}, Graph{Edges: []Edge{b, a}}) {
		t.Error("P16.2: the same, though in another order")
	}
}

func TestText(t *testing.T) {
	e := func(l ...string) []tree.Expr {
		var all []tree.Expr
		for _, name := range l {
			all = append(all, tree.Expr{Op: "name", Name: name})
		}
		return all
	}
	minus := tree.Expr{Op: "-", L: append(e("x"), tree.Expr{Op: "neg", L: e("y")})}
	for want, edge := range map[string]Edge{
		"0 0 \n":                  {},
		"-1 12 skip\n":            {From: -1, To: 12, Op: "skip", At: 7},
		"3 4 skip\n":              {From: 3, To: 4, Op: "skip", Yes: true},
		"1 2 set x y\n":           {From: 1, To: 2, Op: "set", Name: "x", E: e("y"), Yes: true},
		"1 2 test + y\n":          {From: 1, To: 2, Op: "test", E: e("y"), Yes: true},
		"1 2 test - y\n":          {From: 1, To: 2, Op: "test", E: e("y")},
		"1 2 test - x y z\n":      {From: 1, To: 2, Op: "test", Name: "x", E: e("y", "z")},
		"1 2 test +\n":            {From: 1, To: 2, Op: "test", Yes: true},
		"5 6 put a y x - (-y)\n":  {From: 5, To: 6, Op: "put", Name: "a", E: append(e("y"), minus)},
		"5 6 input x\n":           {From: 5, To: 6, Op: "input", Name: "x"},
		"5 6 input x  x - (-y)\n": {From: 5, To: 6, Op: "input", Name: "x", E: []tree.Expr{{}, minus}},
		"5 6 Test\n":              {From: 5, To: 6, Op: "Test", Yes: true},
	} {
		if got := Text(Graph{Edges: []Edge{edge}}); got != want {
			t.Errorf("P16.2: Text is %q, not %q", got, want)
		}
	}
	for seed := range 500 {
		if g := newGraph(newDice(seed)); Text(g) != modelText(g) {
			t.Fatalf("P16.2: Text is %q, not %q", Text(g), modelText(g))
		}
	}
	if Text(Graph{Nodes: 3}) != "" {
		t.Error("P16.2: of no edges there is a line")
	}
}

// follows fails, if a node has other edges from it than it may have, or can't be reached.
func follows(t *testing.T, g Graph) {
	t.Helper()
	for node := range g.Nodes {
		out := Out(g, node)
		is := len(out) == 1 && (out[0].Op != "test" || out[0].Yes)
		if node == g.Exit {
			is = len(out) == 0
		} else if len(out) == 2 {
			is = out[0].Op == "test" && out[1].Op == "test" && out[0].Yes && !out[1].Yes &&
				len(out[0].E) == 1 && slices.EqualFunc(out[0].E, out[1].E, tree.SameExpr)
		}
		if !is {
			t.Errorf("P16.3: from %d there is %+v:\n%s", node, out, Text(g))
		}
	}
	reached, work := map[int]int{0: 1}, []int{0}
	for len(work) > 0 {
		for _, e := range Out(g, work[0]) {
			if reached[e.To]++; reached[e.To] == 1 {
				work = append(work, e.To)
			}
		}
		work = work[1:]
	}
	for node := range g.Nodes {
		if reached[node] == 0 {
			t.Errorf("P16.3: %d can't be reached:\n%s", node, Text(g))
		}
		delete(reached, node)
	}
	if len(reached) > 0 || g.Exit < 0 || g.Exit >= g.Nodes {
		t.Errorf("P16.3: nodes that there are not: %v, exit %d of %d:\n%s", reached, g.Exit, g.Nodes, Text(g))
	}
}

func TestModel(t *testing.T) {
	right, long := 0, 0
	for seed := range 2000 {
		d := newDice(seed)
		p := newProg(d, 1+d(7))
		refused(t, "a spoiled program:\n"+tree.Print(p), spoiled(d, p), api.ErrArg)
		if _, _, e := check.Check(p); e != api.OK {
			refused(t, "a program", p, api.ErrArg)
			continue
		}
		flat, e := inline.Inline(p)
		if e != api.OK {
			refused(t, "a program", p, api.ErrInlineLong)
			continue
		}
		want := modelGraph(flat)
		if want.Nodes > 400 {
			refused(t, "a program", p, api.ErrGraphLong)
			long++
			continue
		}
		right++
		g, e := Lower(p)
		if e != api.OK || sign(g) != sign(want) {
			t.Fatalf("P16.1: %v, %+v\nnot %+v\n%s", e, g, want, tree.Print(p))
		}
		if Text(g) != modelText(want) || !Same(g, want) {
			t.Fatalf("P16.2: Text is\n%snot\n%s", Text(g), modelText(want))
		}
		follows(t, g)
	}
	if right < 1000 || long < 10 {
		t.Errorf("of 2000 programs %d have a graph, %d a long one", right, long)
	}
}

// TestOwn writes into all that is told: what was given, and what is told of it later, stays (R5, R6).
func TestOwn(t *testing.T) {
	for seed := range 200 {
		p := newProg(newDice(seed), 2)
		before := fmt.Sprintf("%+v", p)
		g, e := Lower(p)
		if e != api.OK {
			continue
		}
		want := sign(g)
		for node := range g.Nodes {
			overwrite(Out(g, node))
			overwrite(In(g, node))
		}
		if sign(g) != want {
			t.Fatalf("R6: who writes into edges changes the graph: %s, not %s", sign(g), want)
		}
		overwrite(g.Edges)
		if fmt.Sprintf("%+v", p) != before {
			t.Fatalf("R5: what was given is another one: %+v, not %s", p, before)
		}
		if g, _ = Lower(p); sign(g) != want {
			t.Fatalf("R6: what is told later is another one: %s, not %s", sign(g), want)
		}
	}
}

// TestApart writes into each edge of a graph: all others stay.
func TestApart(t *testing.T) {
	p := read(t, vars+"proc p { if !b { x = x + 1; } } main { call p; while !c { call p; } assume !b; }")
	g, _ := Lower(p)
	for i := range g.Edges {
		h := copyGraph(g)
		k, _ := Lower(p)
		overwriteExprs(k.Edges[i].E)
		h.Edges[i] = k.Edges[i]
		if sign(k) != sign(h) {
			t.Errorf("R6: who writes into the edge %d changes another one:\n%s", i, Text(k))
		}
	}
}

// TestDeep has 2^16 levels, the most that is promised anything of.
func TestDeep(t *testing.T) {
	deep := func() Graph {
		e := tree.Expr{Op: "true"}
		for range 1 << 16 {
			e = tree.Expr{Op: "not", L: []tree.Expr{e}}
		}
		return Graph{Nodes: 2, Exit: 1, Edges: []Edge{{To: 1, Op: "test", E: []tree.Expr{e}}}}
	}
	g, h := deep(), deep()
	if !Same(g, h) || len(Text(g)) != len("0 1 test - !")+3*(1<<16-1)+len("true\n") {
		t.Errorf("P16.2: of 2^16 levels Text has %d bytes", len(Text(g)))
	}
	if len(Out(g, 0)) != 1 || len(In(g, 1)) != 1 || !Same(g, Graph{Nodes: 2, Exit: 1, Edges: Out(h, 0)}) {
		t.Error("P16.2: of 2^16 levels Out or In is another one")
	}
	refused(t, "2^16 levels", tree.Prog{Main: []tree.Stmt{{Op: "assert", E: g.Edges[0].E}}}, api.ErrArg)
	var l []tree.Stmt
	for range 1 << 16 {
		l = []tree.Stmt{{Op: "while", E: []tree.Expr{{Op: "true"}}, A: l}}
	}
	refused(t, "2^16 blocks", tree.Prog{Main: l}, api.ErrArg)
}
