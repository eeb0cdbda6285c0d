package tree

import (
	"fmt"
	"slices"
	"strings"
)

// The chapter's Ops, by how many parts, or expressions, they have.
func twoOps() []string { return strings.Fields("+ - * / == != < <= > >= && ||") }

func closedOps() []string { return append(twoOps(), "neg", "not") }

func stmtOps() []string { return strings.Fields("set put input if while assert assume call skip") }

// modelText is Text by the chapter's words, of right expressions.
func modelText(e Expr) string {
	l := make([]any, len(e.L))
	for i, part := range e.L {
		l[i] = modelText(part)
		if e.Op != "at" && slices.Contains(closedOps(), part.Op) {
			l[i] = fmt.Sprintf("(%s)", l[i])
		}
	}
	switch e.Op {
	case "num":
		return fmt.Sprint(e.N)
	case "name":
		return e.Name
	case "at":
		return e.Name + fmt.Sprintf("[%s]", l...)
	case "true", "false":
		return e.Op
	case "neg":
		return fmt.Sprintf("-%s", l...)
	case "not":
		return fmt.Sprintf("!%s", l...)
	}
	return fmt.Sprintf("%s "+e.Op+" %s", l...)
}

// modelLines are those of right statements, from what stands within them outwards.
func modelLines(l []Stmt) []string {
	var lines []string
	for _, s := range l {
		e := make([]string, len(s.E))
		for i := range s.E {
			e[i] = modelText(s.E[i])
		}
		switch s.Op {
		case "set":
			lines = append(lines, s.Name+" = "+e[0]+";")
		case "put":
			lines = append(lines, s.Name+"["+e[0]+"] = "+e[1]+";")
		case "input":
			ends := ""
			if len(e) == 2 {
				ends = "(" + strings.Join(e, ", ") + ")"
			}
			lines = append(lines, s.Name+" = input"+ends+";")
		case "if":
			lines = append(append(lines, "if "+e[0]+" {"), within(s.A)...)
			if len(s.B) > 0 {
				lines = append(append(lines, "} else {"), within(s.B)...)
			}
			lines = append(lines, "}")
		case "while":
			lines = append(append(append(lines, "while "+e[0]+" {"), within(s.A)...), "}")
		case "assert", "assume":
			lines = append(lines, s.Op+" "+e[0]+";")
		case "call":
			lines = append(lines, "call "+s.Name+";")
		case "skip":
			lines = append(lines, "skip;")
		}
	}
	return lines
}

// within are the lines of statements that stand in one block more.
func within(l []Stmt) []string {
	lines := modelLines(l)
	for i := range lines {
		lines[i] = "  " + lines[i]
	}
	return lines
}

// modelPrint is Print by the chapter's words, of right programs.
func modelPrint(p Prog) string {
	var lines []string
	for _, e := range p.Enums {
		lines = append(lines, fmt.Sprintf("enum %s { %s }", e.Name, strings.Join(e.L, ", ")))
	}
	for _, v := range p.Vars {
		length := ""
		if v.Len > 0 {
			length = fmt.Sprintf("[%d]", v.Len)
		}
		lines = append(lines, fmt.Sprintf("var %s: %s%s;", v.Name, v.Type, length))
	}
	for _, q := range append(slices.Clone(p.Procs), Proc{"main", p.Main}) {
		head := "proc " + q.Name + " {"
		if q.Name == "main" {
			head = "main {"
		}
		lines = append(append(append(lines, head), within(q.Body)...), "}")
	}
	return strings.Join(lines, "\n") + "\n"
}

// signOf tells all of an expression, but for At where that is of no account: of two that differ it differs.
func signOf(e Expr, places bool) string {
	if !places {
		e.At = 0
	}
	s := fmt.Sprintf("(%q %q %d %d", e.Op, e.Name, e.N, e.At)
	for _, part := range e.L {
		s += signOf(part, places)
	}
	return s + ")"
}

func signOfBlock(l []Stmt, places bool) string {
	t := "{"
	for _, s := range l {
		if !places {
			s.At = 0
		}
		t += fmt.Sprintf("%q %q %d", s.Op, s.Name, s.At)
		for _, e := range s.E {
			t += signOf(e, places)
		}
		t += signOfBlock(s.A, places) + signOfBlock(s.B, places)
	}
	return t + "}"
}

func signOfProg(p Prog, places bool) string {
	s := fmt.Sprintf("%d %d %d", len(p.Enums), len(p.Vars), len(p.Procs))
	for _, e := range p.Enums {
		s += fmt.Sprintf("%q %q", e.Name, e.L)
	}
	for _, v := range p.Vars {
		s += fmt.Sprintf("%q %q %d", v.Name, v.Type, v.Len)
	}
	for _, q := range p.Procs {
		s += fmt.Sprintf("%q", q.Name) + signOfBlock(q.Body, places)
	}
	return s + signOfBlock(p.Main, places)
}

// exprsOf are places of all expressions of l, with all their parts.
func exprsOf(l []Expr) []*Expr {
	var all []*Expr
	for i := range l {
		all = append(append(all, &l[i]), exprsOf(l[i].L)...)
	}
	return all
}

// stmtsOf are places of all statements of l, with those within them.
func stmtsOf(l []Stmt) []*Stmt {
	var all []*Stmt
	for i := range l {
		all = append(append(append(all, &l[i]), stmtsOf(l[i].A)...), stmtsOf(l[i].B)...)
	}
	return all
}

// everything are places of all statements, and all expressions, of a program.
func everything(p Prog) ([]*Stmt, []*Expr) {
	stmts := stmtsOf(p.Main)
	for _, q := range p.Procs {
		stmts = append(stmts, stmtsOf(q.Body)...)
	}
	var exprs []*Expr
	for _, s := range stmts {
		exprs = append(exprs, exprsOf(s.E)...)
	}
	return stmts, exprs
}

// dice tells numbers below what it is asked for, the same ones for the same seed.
type dice func(below int) int

func newDice(seed int) dice {
	state := uint64(seed)*2654435761 + 1
	return func(below int) int {
		state = state*6364136223846793005 + 1442695040888963407
		return int(state >> 33 % uint64(below))
	}
}

func (d dice) word() string { return []string{"a", "x", "y1", "mode", "Z_"}[d(5)] }

// expr is a right expression with at most so many levels.
func (d dice) expr(deep int) Expr {
	e := Expr{At: d(100)}
	kind := d(9)
	if deep <= 1 {
		kind = d(4)
	}
	switch kind {
	case 0:
		e.Op, e.N = "num", d(1000)
	case 1, 2:
		e.Op, e.Name = "name", d.word()
	case 3:
		e.Op = []string{"true", "false"}[d(2)]
	case 4:
		e.Op, e.Name, e.L = "at", d.word(), []Expr{d.expr(deep - 1)}
	case 5:
		e.Op, e.L = []string{"neg", "not"}[d(2)], []Expr{d.expr(deep - 1)}
	default:
		e.Op, e.L = twoOps()[d(12)], []Expr{d.expr(deep - 1), d.expr(deep - 1)}
	}
	return e
}

// block is right statements with at most so many levels.
func (d dice) block(deep int) []Stmt {
	if deep == 0 {
		return nil
	}
	l := make([]Stmt, d(4))
	for i := range l {
		s := Stmt{Op: stmtOps()[d(9)], At: d(100)}
		switch s.Op {
		case "set", "put", "input", "call":
			s.Name = d.word()
		case "if":
			s.B = d.block(deep - 1)
		}
		if s.Op == "if" || s.Op == "while" {
			s.A = d.block(deep - 1)
		}
		many := map[string]int{"put": 2, "input": 2 * d(2), "call": 0, "skip": 0}
		n, is := many[s.Op]
		if !is {
			n = 1
		}
		for range n {
			s.E = append(s.E, d.expr(3))
		}
		l[i] = s
	}
	return l
}

// prog is a right program (names may be there twice: that is of no account here).
func (d dice) prog() Prog {
	p := Prog{Main: d.block(4)}
	for range d(3) {
		e := Enum{Name: d.word()}
		for range d(4) {
			e.L = append(e.L, d.word())
		}
		p.Enums = append(p.Enums, e)
	}
	for range d(4) {
		p.Vars = append(p.Vars, Var{d.word(), []string{"int", "bool", "mode"}[d(3)], max(0, d(12)-6)})
	}
	for range d(3) {
		p.Procs = append(p.Procs, Proc{d.word(), d.block(3)})
	}
	return p
}

// wild makes a right program wrong at some places: Ops that are none, parts that are lacking, or too many.
func (d dice) wild() Prog {
	p := copyProg(d.prog())
	stmts, exprs := everything(p)
	for range 1 + d(4) {
		if len(stmts) > 0 {
			d.spoilStmt(stmts[d(len(stmts))])
		}
		if len(exprs) > 0 {
			d.spoilExpr(exprs[d(len(exprs))])
		}
	}
	return p
}

func (d dice) spoilExpr(e *Expr) {
	switch d(6) {
	case 0:
		e.Op = append(closedOps(), "", "%", "if", "num", "name", "at", "true")[d(21)]
	case 1:
		e.Name += []string{"", "q", "\n", "\xff"}[d(4)]
	case 2:
		e.N -= d(2000)
	case 3:
		e.L = e.L[:d(len(e.L)+1)]
	case 4:
		e.L = append(slices.Clone(e.L), d.expr(2))
	case 5:
		e.At += d(3)
	}
}

func (d dice) spoilStmt(s *Stmt) {
	switch d(8) {
	case 0:
		s.Op = append(stmtOps(), "", "for")[d(11)]
	case 1:
		s.Name += []string{"", "q", "\n", "\xff"}[d(4)]
	case 2:
		s.E = s.E[:d(len(s.E)+1)]
	case 3:
		s.E = append(slices.Clone(s.E), d.expr(2))
	case 4:
		s.A, s.B = s.B, s.A
	case 5:
		s.A = append(slices.Clone(s.A), d.block(2)...)
	case 6:
		s.B = append(slices.Clone(s.B), d.block(2)...)
	case 7:
		s.At += d(3)
	}
}

// copyProg copies a program with all of its rows.
func copyProg(p Prog) Prog {
	q := Prog{slices.Clone(p.Enums), slices.Clone(p.Vars), slices.Clone(p.Procs), copyBlock(p.Main)}
	for i := range q.Enums {
		q.Enums[i].L = slices.Clone(q.Enums[i].L)
	}
	for i := range q.Procs {
		q.Procs[i].Body = copyBlock(q.Procs[i].Body)
	}
	return q
}

func copyBlock(l []Stmt) []Stmt {
	l = slices.Clone(l)
	for i, s := range l {
		l[i].E, l[i].A, l[i].B = copyExprs(s.E), copyBlock(s.A), copyBlock(s.B)
	}
	return l
}

func copyExprs(l []Expr) []Expr {
	l = slices.Clone(l)
	for i, e := range l {
		l[i].L = copyExprs(e.L)
	}
	return l
}

// moved is a copy that stood somewhere else, and whose empty rows are none, or the other way round.
func moved(p Prog) Prog {
	p = copyProg(p)
	stmts, exprs := everything(p)
	for i, e := range exprs {
		e.At += 1 + i
		e.L = otherwise(e.L)
	}
	for i, s := range stmts {
		s.At -= 1 + i
		s.E, s.A, s.B = otherwise(s.E), otherwise(s.A), otherwise(s.B)
	}
	for i := range p.Enums {
		p.Enums[i].L = otherwise(p.Enums[i].L)
	}
	for i := range p.Procs {
		p.Procs[i].Body = otherwise(p.Procs[i].Body)
	}
	return Prog{otherwise(p.Enums), otherwise(p.Vars), otherwise(p.Procs), otherwise(p.Main)}
}

func otherwise[T any](l []T) []T {
	if len(l) > 0 {
		return l
	}
	if l == nil {
		return []T{}
	}
	return nil
}
