package graph

import (
	"fmt"
	"slices"
	"strings"

	"helmsman/tree"
)

// dice tells numbers below what it is asked for, the same ones for the same seed.
type dice func(below int) int

func newDice(seed int) dice {
	state := uint64(seed)*2654435761 + 1
	return func(below int) int {
		state = state*6364136223846793005 + 1442695040888963407
		return int(state >> 33 % uint64(below))
	}
}

// newProg is a program that may be, if its main is not too long.
func newProg(d dice, deep int) tree.Prog {
	p := tree.Prog{
		Enums: []tree.Enum{{Name: "mode", L: []string{"idle", "run"}}},
		Vars:  []tree.Var{{Name: "m", Type: "mode"}, {Name: "b", Type: "bool"}, {Name: "x", Type: "int"}, {Name: "a", Type: "int", Len: 3}},
	}
	var may []string
	for i := range d(3) {
		name := fmt.Sprintf("p%d", i)
		p.Procs = append(p.Procs, tree.Proc{Name: name, Body: d.block(1, may)})
		may = append(may, name)
	}
	for range 1 + d(5) {
		p.Main = append(p.Main, d.block(deep, may)...)
	}
	return p
}

func (d dice) block(deep int, may []string) []tree.Stmt {
	var l []tree.Stmt
	for range d(5) {
		l = append(l, d.stmt(deep, may))
	}
	return l
}

func (d dice) name(of string) tree.Expr { return tree.Expr{Op: "name", Name: of, At: d(1000)} }

func (d dice) num(n int) tree.Expr { return tree.Expr{Op: "num", N: n, At: d(1000)} }

// asked is an expression that holds or not.
func (d dice) asked() tree.Expr {
	less := tree.Expr{Op: "<", L: []tree.Expr{d.name("x"), d.num(d(9))}, At: d(1000)}
	return []tree.Expr{d.name("b"), less, {Op: "not", L: []tree.Expr{less}, At: d(1000)}}[d(3)]
}

func (d dice) stmt(deep int, may []string) tree.Stmt {
	s := tree.Stmt{At: d(1000)}
	switch kind := d(14); {
	case kind < 2 && len(may) > 0:
		s.Op, s.Name = "call", may[d(len(may))]
	case kind < 5 && deep > 0:
		s.Op, s.E, s.A, s.B = "if", []tree.Expr{d.asked()}, d.block(deep-1, may), d.block(deep-1, may)
	case kind < 8 && deep > 0:
		s.Op, s.E, s.A = "while", []tree.Expr{d.asked()}, d.block(deep-1, may)
	case kind == 8:
		s.Op, s.Name, s.E = "put", "a", []tree.Expr{d.name("x"), d.num(d(9))}
	case kind == 9:
		s.Op, s.Name, s.E = "set", "m", []tree.Expr{d.name("run")}
	case kind == 10:
		s.Op, s.Name, s.E = "input", "x", []tree.Expr{d.num(1), d.num(1 + d(9))}
	case kind == 11:
		s.Op, s.Name = "input", "b"
	case kind == 12:
		s.Op, s.E = "assert", []tree.Expr{d.asked()}
	case kind == 13:
		s.Op, s.E = "assume", []tree.Expr{d.asked()}
	default:
		s.Op = "skip"
	}
	return s
}

// spoiled is a program one of whose statements may not be.
func spoiled(d dice, p tree.Prog) tree.Prog {
	wrong := []tree.Stmt{
		{Op: "call", Name: "none"}, {Op: "set", Name: "x", E: []tree.Expr{d.name("b")}}, {Op: "test", E: []tree.Expr{d.name("b")}},
		{Op: "skip", Name: "x"}, {Op: "input", Name: "x", E: []tree.Expr{d.num(2), d.num(1)}}, {Op: "while", E: []tree.Expr{d.name("x")}},
	}
	p.Main = slices.Insert(slices.Clone(p.Main), d(len(p.Main)+1), wrong[d(len(wrong))])
	return p
}

// newNodes are how many nodes statements put: the last one of each is where it ends.
func newNodes(l []tree.Stmt) int {
	n := 0
	for _, s := range l {
		n++
		if s.Op == "if" || s.Op == "while" {
			n += 2 + newNodes(s.A) + newNodes(s.B)
		}
	}
	return n
}

// modelEnd is where statements end that began at one node, if the next new node is first.
func modelEnd(l []tree.Stmt, from, first int) int {
	if len(l) == 0 {
		return from
	}
	return first + newNodes(l) - 1
}

// modelEdges are those of statements that begin at one node, if the next new node is first: what each
// node's number is, is reckoned by how many nodes are put ahead of it.
func modelEdges(l []tree.Stmt, from, first int) []Edge {
	var all []Edge
	put := func(s tree.Stmt, from, to int, op string, yes bool) {
		e := Edge{From: from, To: to, Op: op, Name: s.Name, E: s.E, Yes: yes, At: s.At}
		if op == "skip" {
			e.E = nil
		}
		all = append(all, e)
	}
	for _, s := range l {
		end := modelEnd([]tree.Stmt{s}, from, first)
		a := newNodes(s.A)
		switch s.Op {
		case "assume":
			put(s, from, end, "test", true)
		case "if":
			no := first + 1 + a
			put(s, from, first, "test", true)
			all = append(all, modelEdges(s.A, first, first+1)...)
			put(s, from, no, "test", false)
			all = append(all, modelEdges(s.B, no, no+1)...)
			put(s, modelEnd(s.A, first, first+1), end, "skip", false)
			put(s, modelEnd(s.B, no, no+1), end, "skip", false)
		case "while":
			put(s, from, first, "skip", false)
			put(s, first, first+1, "test", true)
			all = append(all, modelEdges(s.A, first+1, first+2)...)
			put(s, modelEnd(s.A, first+1, first+2), first, "skip", false)
			put(s, first, end, "test", false)
		default:
			put(s, from, end, s.Op, false)
		}
		from, first = end, end+1
	}
	return all
}

// modelGraph is that of a program without procedures.
func modelGraph(p tree.Prog) Graph {
	return Graph{Nodes: 1 + newNodes(p.Main), Exit: modelEnd(p.Main, 0, 1), Edges: modelEdges(p.Main, 0, 1)}
}

// modelText is Text by the chapter's words.
func modelText(g Graph) string {
	all := ""
	for _, e := range g.Edges {
		all += fmt.Sprintf("%d %d %s", e.From, e.To, e.Op)
		if e.Op == "test" {
			all += map[bool]string{true: " +", false: " -"}[e.Yes]
		}
		all += strings.TrimSuffix(" "+e.Name, " ")
		for _, x := range e.E {
			all += " " + tree.Text(x)
		}
		all += "\n"
	}
	return all
}

// newGraph is any edges, of which no program need be made.
func newGraph(d dice) Graph {
	g := Graph{Nodes: d(7) - 1, Exit: d(7) - 1}
	for range d(12) {
		s := d.stmt(0, nil)
		e := Edge{From: d(7) - 1, To: d(7) - 1, Op: []string{s.Op, "test", ""}[d(3)], Name: s.Name, E: s.E, Yes: d(2) == 0, At: d(100) - 50}
		g.Edges = append(g.Edges, e)
	}
	return g
}

// sign tells all of a graph, with its places; an empty row is as good as none.
func sign(g Graph) string { return fmt.Sprintf("%+v", g) }

func signEdges(l []Edge) string { return fmt.Sprintf("%+v", l) }

// overwrite changes all that edges have, in their rows.
func overwrite(l []Edge) {
	for i, e := range l {
		overwriteExprs(e.E)
		l[i] = Edge{Op: "spoiled"}
	}
}

func overwriteExprs(l []tree.Expr) {
	for i, e := range l {
		overwriteExprs(e.L)
		l[i] = tree.Expr{Op: "spoiled"}
	}
}

// copyGraph is a copy with rows of its own.
func copyGraph(g Graph) Graph {
	g.Edges = slices.Clone(g.Edges)
	for i := range g.Edges {
		g.Edges[i].E = copied(g.Edges[i].E)
	}
	return g
}

func copied(l []tree.Expr) []tree.Expr {
	l = slices.Clone(l)
	for i := range l {
		l[i].L = copied(l[i].L)
	}
	return l
}
