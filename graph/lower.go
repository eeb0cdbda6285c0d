package graph

import "helmsman/tree"

// growing is a graph to which nodes and edges are put.
type growing struct{ Graph }

// lowering knows statements; how to put nodes and edges is promoted to it.
type lowering struct{ growing }

func (g *growing) node() int {
	g.Nodes++
	return g.Nodes - 1
}

// edge puts what a statement does. The expressions are copied, since a statement may have two edges that test them.
func (g *growing) edge(s tree.Stmt, from, to int) {
	g.Edges = append(g.Edges, Edge{From: from, To: to, Op: s.Op, Name: s.Name, E: copyExprs(s.E), At: s.At})
}

// next puts a new node, and an edge to it.
func (g *growing) next(s tree.Stmt, from int) int {
	to := g.node()
	g.edge(s, from, to)
	return to
}

// test puts a new node, where it is known whether what a statement asks holds.
func (g *growing) test(s tree.Stmt, from int, yes bool) int {
	s.Op = "test"
	to := g.next(s, from)
	g.Edges[len(g.Edges)-1].Yes = yes
	return to
}

func (g *growing) skip(s tree.Stmt, from, to int) {
	s.Op, s.E = "skip", nil
	g.edge(s, from, to)
}

// block puts statements one behind the other, and tells where they end.
func (l *lowering) block(b []tree.Stmt, from int) int {
	for _, s := range b {
		from = l.stmt(s, from)
	}
	return from
}

func (l *lowering) stmt(s tree.Stmt, from int) int {
	switch s.Op {
	case "if":
		return l.choice(s, from)
	case "while":
		return l.loop(s, from)
	case "assume":
		return l.test(s, from, true)
	}
	return l.next(s, from)
}

func (l *lowering) choice(s tree.Stmt, from int) int {
	yes := l.block(s.A, l.test(s, from, true))
	no := l.block(s.B, l.test(s, from, false))
	end := l.node()
	l.skip(s, yes, end)
	l.skip(s, no, end)
	return end
}

func (l *lowering) loop(s tree.Stmt, from int) int {
	head := l.node()
	l.skip(s, from, head)
	l.skip(s, l.block(s.A, l.test(s, head, true)), head)
	return l.test(s, head, false)
}
