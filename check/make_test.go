package check

import (
	"fmt"
	"slices"

	"helmsman/tree"
)

// dice tells numbers below what it is asked for, the same ones for the same seed.
type dice func(below int) int

func newDice(seed int) dice {
	state := uint64(seed)*2654435761 + 1
	return func(below int) int {
		state = state*6364136223846793005 + 1442695040888963407
		return int(state >> 33 % uint64(below))
	}
}

func (d dice) of(l ...string) string { return l[d(len(l))] }

// maker makes programs that may be.
type maker struct {
	dice
	p     tree.Prog
	names int
}

func (m *maker) fresh(kind string) string {
	m.names++
	return fmt.Sprintf("%s%d%.*s", kind, m.names, m.dice(13), "_abcdefghijk")
}

// newProg is a program that may be (or seldom one that is too great).
func newProg(d dice) tree.Prog {
	m := &maker{dice: d}
	for range d(4) {
		e := tree.Enum{Name: m.fresh("e")}
		for range 1 + d(8)*d(2) {
			e.L = append(e.L, m.fresh("c"))
		}
		m.p.Enums = append(m.p.Enums, e)
	}
	for range d(8) {
		m.p.Vars = append(m.p.Vars, m.newVar())
	}
	for range d(4) {
		// What is called was there ahead of it; or, turned round, is behind it.
		body := m.block(2)
		m.p.Procs = append(m.p.Procs, tree.Proc{Name: m.fresh("p"), Body: body})
	}
	m.p.Main = m.block(3)
	if d(2) == 0 {
		slices.Reverse(m.p.Procs)
	}
	return m.p
}

func (m *maker) newVar() tree.Var {
	v := tree.Var{Name: m.fresh("v"), Type: m.of("int", "bool", "int")}
	switch {
	case v.Type == "int" && m.dice(3) == 0:
		v.Len = 1 + m.dice(16)
	case v.Type == "bool" && len(m.p.Enums) > 0 && m.dice(2) == 0:
		v.Type = m.p.Enums[m.dice(len(m.p.Enums))].Name
	}
	return v
}

// vars are the names of all variables for which a test holds.
func (m *maker) vars(test func(v tree.Var) bool) []string {
	var l []string
	for _, v := range m.p.Vars {
		if test(v) {
			l = append(l, v.Name)
		}
	}
	return l
}

func (m *maker) arrays() []string { return m.vars(isArray) }

func (m *maker) singles(of string) []string {
	return m.vars(func(v tree.Var) bool { return v.Type == of && v.Len == 0 })
}

func (m *maker) types() []string {
	l := []string{"int", "bool"}
	for _, e := range m.p.Enums {
		l = append(l, e.Name)
	}
	return l
}

// expr is an expression of a type, with at most so many levels.
func (m *maker) expr(of string, deep int) tree.Expr {
	e := tree.Expr{At: m.dice(1000)}
	if l := m.singles(of); len(l) > 0 && (deep <= 1 || m.dice(3) == 0) {
		e.Op, e.Name = "name", m.of(l...)
		return e
	}
	switch {
	case of == "int":
		m.intExpr(&e, deep)
	case of == "bool":
		m.boolExpr(&e, deep)
	default:
		i := slices.IndexFunc(m.p.Enums, func(x tree.Enum) bool { return x.Name == of })
		e.Op, e.Name = "name", m.of(m.p.Enums[i].L...)
	}
	return e
}

func (m *maker) parts(e *tree.Expr, op string, deep int, of ...string) {
	e.Op = op
	for _, t := range of {
		e.L = append(e.L, m.expr(t, deep-1))
	}
}

func (m *maker) intExpr(e *tree.Expr, deep int) {
	arrays := m.arrays()
	switch kind := m.dice(4); {
	case deep <= 1 || kind == 0:
		e.Op, e.N = "num", []int{0, 1, 7, 1 << 60}[m.dice(4)]
	case kind == 1:
		m.parts(e, "neg", deep, "int")
	case kind == 2 && len(arrays) > 0:
		m.parts(e, "at", deep, "int")
		e.Name = m.of(arrays...)
	default:
		m.parts(e, m.of("+", "-", "*", "/"), deep, "int", "int")
	}
}

func (m *maker) boolExpr(e *tree.Expr, deep int) {
	switch kind := m.dice(5); {
	case deep <= 1 || kind == 0:
		e.Op = m.of("true", "false")
	case kind == 1:
		m.parts(e, "not", deep, "bool")
	case kind == 2:
		m.parts(e, m.of("&&", "||"), deep, "bool", "bool")
	case kind == 3:
		m.parts(e, m.of("<", "<=", ">", ">="), deep, "int", "int")
	default:
		t := m.types()
		of := append(t[:1], t[2:]...)[m.dice(len(t)-1)]
		m.parts(e, m.of("==", "!="), deep, of, of)
	}
}

// block is statements with at most so many levels.
func (m *maker) block(deep int) []tree.Stmt {
	var l []tree.Stmt
	for range m.dice(5) {
		l = append(l, m.stmt(deep))
	}
	return l
}

func (m *maker) stmt(deep int) tree.Stmt {
	s := tree.Stmt{Op: m.of("set", "set", "put", "input", "input", "if", "while", "assert", "assume", "call", "call"), At: m.dice(1000)}
	var of []string
	switch singles, arrays := m.vars(func(v tree.Var) bool { return v.Len == 0 }), m.arrays(); {
	case (s.Op == "set" || s.Op == "input") && len(singles) > 0:
		s.Name = m.of(singles...)
		of = []string{modelVar(m.p, s.Name).Type}
	case s.Op == "put" && len(arrays) > 0:
		s.Name = m.of(arrays...)
		of = []string{"int", "int"}
	case s.Op == "if" || s.Op == "while" || s.Op == "assert" || s.Op == "assume":
		of = []string{"bool"}
	case s.Op == "call" && len(m.p.Procs) > 0:
		s.Name = m.p.Procs[m.dice(len(m.p.Procs))].Name
	default:
		s.Op = "skip"
	}
	if s.Op == "input" {
		s.E = m.ends(of[0])
		return s
	}
	for _, t := range of {
		s.E = append(s.E, m.expr(t, 4))
	}
	if (s.Op == "if" || s.Op == "while") && deep > 0 {
		s.A = m.block(deep - 1)
	}
	if s.Op == "if" && deep > 0 {
		s.B = m.block(deep - 1)
	}
	return s
}

// ends are those within which a variable of a type is input.
func (m *maker) ends(of string) []tree.Expr {
	if of != "int" {
		return nil
	}
	low := m.dice(20) - 10
	return []tree.Expr{m.number(low), m.number(low + m.dice(10))}
}

func (m *maker) number(n int) tree.Expr {
	if n > 0 || n == 0 && m.dice(2) == 0 {
		return tree.Expr{Op: "num", N: n, At: m.dice(1000)}
	}
	return tree.Expr{Op: "neg", L: []tree.Expr{{Op: "num", N: -n, At: m.dice(1000)}}, At: m.dice(1000)}
}

// spoiled is a copy of a program in which some places were made something else, right or wrong.
func (d dice) spoiled(p tree.Prog, many int) tree.Prog {
	p = copyProg(p)
	stmts := stmtsOf(p.Main)
	for _, q := range p.Procs {
		stmts = append(stmts, stmtsOf(q.Body)...)
	}
	var exprs []*tree.Expr
	for _, s := range stmts {
		exprs = append(exprs, exprsOf(s.E)...)
	}
	names := append(declared(p), "x", "", "main")
	for range many {
		kind := d(7)
		switch {
		case kind == 6:
			d.spoilCalls(p, stmts)
		case kind == 0:
			d.spoilDeclared(&p, names)
		case kind <= 2 && len(stmts) > 0:
			d.spoilStmt(stmts[d(len(stmts))], names)
		case len(exprs) > 0:
			d.spoilExpr(exprs[d(len(exprs))], names)
		}
	}
	return p
}

func (d dice) spoilDeclared(p *tree.Prog, names []string) {
	names = append(slices.Clone(names), "int", "bool", "9x", "x y", "X", "abcdefghijklmnopq", " x", "é")
	switch kind := d(6); {
	case kind == 0 && len(p.Enums) > 0:
		p.Enums[d(len(p.Enums))].Name = d.of(names...)
	case kind == 1 && len(p.Enums) > 0:
		e := &p.Enums[d(len(p.Enums))]
		e.L = append(e.L[:d(len(e.L)+1)], "X1", "X2")
	case kind == 2 && len(p.Vars) > 0:
		p.Vars[d(len(p.Vars))].Name = d.of(names...)
	case kind == 3 && len(p.Vars) > 0:
		p.Vars[d(len(p.Vars))].Type = d.of(names...)
	case kind == 4 && len(p.Vars) > 0:
		p.Vars[d(len(p.Vars))].Len = []int{-1, 0, 1, 16, 17}[d(5)]
	case len(p.Procs) > 0:
		p.Procs[d(len(p.Procs))].Name = d.of(names...)
	}
}

// spoilCalls makes what is called whatever procedure there is.
func (d dice) spoilCalls(p tree.Prog, stmts []*tree.Stmt) {
	for _, s := range stmts {
		if len(p.Procs) > 0 && s.Op == "call" && d(2) == 0 {
			s.Name = p.Procs[d(len(p.Procs))].Name
		}
	}
}

func (d dice) spoilStmt(s *tree.Stmt, names []string) {
	one := []tree.Expr{{Op: "num", N: d(9), At: d(1000)}}
	switch d(7) {
	case 0:
		s.Op = d.of("set", "put", "input", "if", "while", "assert", "assume", "call", "skip", "", "num")
	case 1, 2:
		s.Name = d.of(names...)
	case 3:
		s.E = s.E[:d(len(s.E)+1)]
	case 4:
		s.E = append(slices.Clone(s.E), one...)
	case 5:
		s.E = append(one, tree.Expr{Op: "num", N: d(9), At: d(1000)})
	case 6:
		s.A, s.B = s.B, append(slices.Clone(s.A), tree.Stmt{Op: "skip", At: d(1000)})
	}
}

func (d dice) spoilExpr(e *tree.Expr, names []string) {
	switch d(7) {
	case 0:
		e.Op = d.of("num", "name", "at", "true", "not", "neg", "+", "/", "==", "!=", "<", "&&", "", "set")
	case 1, 2:
		e.Name = d.of(names...)
	case 3:
		e.N = []int{0, -1, 1, 1<<60 + 1}[d(4)]
	case 4:
		e.L = e.L[:d(len(e.L)+1)]
	case 5:
		e.L = append(slices.Clone(e.L), tree.Expr{Op: "num", At: d(1000)})
	case 6:
		*e = tree.Expr{Op: "name", Name: d.of(names...), At: d(1000)}
	}
}

// copyProg copies a program with all of its rows.
func copyProg(p tree.Prog) tree.Prog {
	q := tree.Prog{Enums: slices.Clone(p.Enums), Vars: slices.Clone(p.Vars), Procs: slices.Clone(p.Procs), Main: copyBlock(p.Main)}
	for i := range q.Enums {
		q.Enums[i].L = slices.Clone(q.Enums[i].L)
	}
	for i := range q.Procs {
		q.Procs[i].Body = copyBlock(q.Procs[i].Body)
	}
	return q
}

func copyBlock(l []tree.Stmt) []tree.Stmt {
	l = slices.Clone(l)
	for i, s := range l {
		l[i].E, l[i].A, l[i].B = copyExprs(s.E), copyBlock(s.A), copyBlock(s.B)
	}
	return l
}

func copyExprs(l []tree.Expr) []tree.Expr {
	l = slices.Clone(l)
	for i, e := range l {
		l[i].L = copyExprs(e.L)
	}
	return l
}
