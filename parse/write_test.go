package parse

import (
	"slices"
	"strconv"
	"strings"

	"helmsman/lexer"
	"helmsman/tree"
)

// dice tells numbers below what it is asked for, the same ones for the same seed.
type dice func(below int) int

func newDice(seed int) dice {
	state := uint64(seed)*2654435761 + 1
	return func(below int) int {
		state = state*6364136223846793005 + 1442695040888963407
		return int(state >> 33 % uint64(below))
	}
}

func (d dice) of(l ...string) string { return l[d(len(l))] }

func (d dice) word() string {
	return d.of("a", "x", "y1", "mode", "Z_", "Main", "iff", "abcdefghijklmnop")
}

// levels are the signs between two parts, those first that hold their parts together least.
func levels() []string { return []string{"||", "&&", "== != < <= > >=", "+ -", "* /"} }

func twoOps() []string { return strings.Fields(strings.Join(levels(), " ")) }

// levelOf is the place of an Op in levels, or behind them all.
func levelOf(op string) int {
	for i, l := range levels() {
		if slices.Contains(strings.Fields(l), op) {
			return i
		}
	}
	return len(levels())
}

// expr is an expression with at most so many levels, without places.
func (d dice) expr(deep int) tree.Expr {
	kind := d(10)
	if deep <= 1 {
		kind = d(4)
	}
	switch kind {
	case 0:
		return tree.Expr{Op: "num", N: []int{0, 1, 7, 10, 1 << 60}[d(5)]}
	case 1, 2:
		return tree.Expr{Op: "name", Name: d.word()}
	case 3:
		return tree.Expr{Op: d.of("true", "false")}
	case 4:
		return tree.Expr{Op: "at", Name: d.word(), L: []tree.Expr{d.expr(deep - 1)}}
	case 5:
		return tree.Expr{Op: d.of("neg", "not"), L: []tree.Expr{d.expr(deep - 1)}}
	}
	return tree.Expr{Op: d.of(twoOps()...), L: []tree.Expr{d.expr(deep - 1), d.expr(deep - 1)}}
}

// block is statements with at most so many levels, without places.
func (d dice) block(deep int) []tree.Stmt {
	if deep == 0 {
		return nil
	}
	var l []tree.Stmt
	for range d(4) {
		s := tree.Stmt{Op: d.of("set", "put", "input", "if", "while", "assert", "assume", "call", "skip")}
		many := 1
		switch s.Op {
		case "put":
			many = 2
		case "input":
			many = 2 * d(2)
		case "call", "skip":
			many = 0
		case "if":
			s.A, s.B = d.block(deep-1), d.block(deep-1)
		case "while":
			s.A = d.block(deep - 1)
		}
		if strings.Contains("set put input call", s.Op) {
			s.Name = d.word()
		}
		for range many {
			s.E = append(s.E, d.expr(3))
		}
		l = append(l, s)
	}
	return l
}

// prog is a program, without places (names may be there twice: that is of no account here).
func (d dice) prog() tree.Prog {
	p := tree.Prog{Main: d.block(3)}
	for range d(3) {
		e := tree.Enum{Name: d.word(), L: []string{d.word()}}
		for range d(4) {
			e.L = append(e.L, d.word())
		}
		p.Enums = append(p.Enums, e)
	}
	for range d(3) {
		p.Vars = append(p.Vars, tree.Var{Name: d.word(), Type: d.of("int", "bool", "mode"), Len: []int{0, 0, 1, 16, 1 << 60}[d(5)]})
	}
	for range d(3) {
		p.Procs = append(p.Procs, tree.Proc{Name: d.word(), Body: d.block(2)})
	}
	return p
}

// writer writes a tree as a text that must be read as it, and writes into the tree where its parts stand. What says
// nothing, and brackets that need not be, are dealt by dice.
type writer struct {
	d    dice
	last string
	text strings.Builder
}

// token writes one, and tells its place.
func (w *writer) token(text string) int {
	gap := w.d.of(" ", " ", "\n", "\t ", " # } + $\n", "", "", "")
	if l, _, _ := lexer.Lex(w.last + text); w.last != "" && (len(l) != 2 || l[0].Text != w.last) && gap == "" {
		gap = " "
	}
	w.text.WriteString(gap)
	at := w.text.Len()
	w.text.WriteString(text)
	w.last = text
	return at
}

func (w *writer) tokens(l ...string) {
	for _, t := range l {
		w.token(t)
	}
}

func (w *writer) number(n int) int {
	return w.token(strings.Repeat("0", w.d(3)*w.d(2)) + strconv.Itoa(n))
}

// expr writes one that stands where those of this level, and of greater ones, may stand without brackets.
func (w *writer) expr(e *tree.Expr, least int) {
	own := levelOf(e.Op)
	if own < least || w.d(10) == 0 {
		w.token("(")
		w.expr(e, 0)
		w.token(")")
		return
	}
	switch e.Op {
	case "num":
		e.At = w.number(e.N)
	case "name":
		e.At = w.token(e.Name)
	case "at":
		e.At = w.token(e.Name)
		w.token("[")
		w.expr(&e.L[0], 0)
		w.token("]")
	case "true", "false":
		e.At = w.token(e.Op)
	case "neg", "not":
		e.At = w.token(map[string]string{"neg": "-", "not": "!"}[e.Op])
		w.expr(&e.L[0], len(levels()))
	default:
		left := own
		if own == levelOf("==") {
			left++
		}
		w.expr(&e.L[0], left)
		e.At = w.token(e.Op)
		w.expr(&e.L[1], own+1)
	}
}

func (w *writer) block(l []tree.Stmt) {
	w.token("{")
	for i := range l {
		w.stmt(&l[i])
	}
	w.token("}")
}

func (w *writer) stmt(s *tree.Stmt) {
	begin := s.Op
	if strings.Contains("set put input", s.Op) {
		begin = s.Name
	}
	s.At = w.token(begin)
	switch s.Op {
	case "set":
		w.token("=")
		w.expr(&s.E[0], 0)
	case "put":
		w.token("[")
		w.expr(&s.E[0], 0)
		w.tokens("]", "=")
		w.expr(&s.E[1], 0)
	case "input":
		w.tokens("=", "input")
		if len(s.E) > 0 {
			w.token("(")
			w.expr(&s.E[0], 0)
			w.token(",")
			w.expr(&s.E[1], 0)
			w.token(")")
		}
	case "assert", "assume":
		w.expr(&s.E[0], 0)
	case "call":
		w.token(s.Name)
	case "if", "while":
		w.expr(&s.E[0], 0)
		w.block(s.A)
		if s.Op == "if" && (len(s.B) > 0 || w.d(2) == 0) {
			w.token("else")
			w.block(s.B)
		}
		return
	}
	w.token(";")
}

// prog writes what is declared in an order of its own: of each kind as it stands.
func (w *writer) prog(p *tree.Prog) {
	enums, vars, procs := p.Enums, p.Vars, p.Procs
	for len(enums)+len(vars)+len(procs) > 0 {
		switch kind := w.d(3); {
		case kind == 0 && len(enums) > 0:
			w.tokens("enum", enums[0].Name, "{", enums[0].L[0])
			for _, v := range enums[0].L[1:] {
				w.tokens(",", v)
			}
			w.token("}")
			enums = enums[1:]
		case kind == 1 && len(vars) > 0:
			w.tokens("var", vars[0].Name, ":", vars[0].Type)
			if vars[0].Len > 0 {
				w.token("[")
				w.number(vars[0].Len)
				w.token("]")
			}
			w.token(";")
			vars = vars[1:]
		case kind == 2 && len(procs) > 0:
			w.tokens("proc", procs[0].Name)
			w.block(procs[0].Body)
			procs = procs[1:]
		}
	}
	w.token("main")
	w.block(p.Main)
}

// end writes what says nothing behind it all, and tells the text.
func (w *writer) end() string {
	w.text.WriteString(w.d.of("", "", " ", "\n", "# no", "\n# x\n"))
	return w.text.String()
}
