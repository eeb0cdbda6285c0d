package inline

import (
	"fmt"
	"math/big"
	"slices"

	"helmsman/tree"
)

// dice tells numbers below what it is asked for, the same ones for the same seed.
type dice func(below int) int

func newDice(seed int) dice {
	state := uint64(seed)*2654435761 + 1
	return func(below int) int {
		state = state*6364136223846793005 + 1442695040888963407
		return int(state >> 33 % uint64(below))
	}
}

// newProg is a program that may be, with at most so many procedures. What each calls is one of those
// ahead of it in a row of its own, so that it is declared ahead of the caller or behind it.
func newProg(d dice, procs int) tree.Prog {
	p := tree.Prog{
		Enums: []tree.Enum{{Name: "mode", L: []string{"idle", "run"}}},
		Vars:  []tree.Var{{Name: "m", Type: "mode"}, {Name: "b", Type: "bool"}, {Name: "x", Type: "int"}, {Name: "a", Type: "int", Len: 3}},
	}
	var may []string
	for i := range d(procs + 1) {
		name := fmt.Sprintf("p%d", i)
		at := d(len(p.Procs) + 1)
		p.Procs = slices.Insert(p.Procs, at, tree.Proc{Name: name, Body: d.block(2, may)})
		may = append(may, name)
	}
	p.Main = d.block(3, may)
	return p
}

// block is statements with at most so many levels, which call whom they may.
func (d dice) block(deep int, may []string) []tree.Stmt {
	var l []tree.Stmt
	for range d(5) {
		l = append(l, d.stmt(deep, may))
	}
	return l
}

func (d dice) stmt(deep int, may []string) tree.Stmt {
	at := d(1000)
	name := func(of string) tree.Expr { return tree.Expr{Op: "name", Name: of, At: d(1000)} }
	num := func() tree.Expr { return tree.Expr{Op: "num", N: d(9), At: d(1000)} }
	kind := d(10)
	if kind < 4 && len(may) > 0 {
		return tree.Stmt{Op: "call", Name: may[d(len(may))], At: at}
	}
	if kind < 7 && deep > 0 {
		s := tree.Stmt{Op: "while", E: []tree.Expr{name("b")}, A: d.block(deep-1, may), At: at}
		if kind < 6 {
			s.Op, s.B = "if", d.block(deep-1, may)
		}
		return s
	}
	index := tree.Expr{Op: "+", L: []tree.Expr{name("x"), num()}, At: d(1000)}
	switch kind {
	case 7:
		return tree.Stmt{Op: "put", Name: "a", E: []tree.Expr{index, num()}, At: at}
	case 8:
		return tree.Stmt{Op: "set", Name: "m", E: []tree.Expr{name("run")}, At: at}
	case 9:
		return tree.Stmt{Op: "assert", E: []tree.Expr{{Op: "==", L: []tree.Expr{index, name("x")}, At: d(1000)}}, At: at}
	}
	return tree.Stmt{Op: "skip", At: at}
}

// replaced puts into the place of each call what is told of its name, once, and tells how many there were.
func replaced(l []tree.Stmt, told func(name string) []tree.Stmt) ([]tree.Stmt, int) {
	var out []tree.Stmt
	many := 0
	for _, s := range l {
		if s.Op == "call" {
			out = append(out, told(s.Name)...)
			many++
			continue
		}
		a, n := replaced(s.A, told)
		b, k := replaced(s.B, told)
		s.A, s.B = a, b
		out = append(out, s)
		many += n + k
	}
	return out, many
}

// modelInline replaces all calls of main by bodies as they stand, again and again, until there is none.
func modelInline(p tree.Prog) tree.Prog {
	told := func(name string) []tree.Stmt { return bodyOf(p, name) }
	main, many := replaced(p.Main, told)
	for many > 0 {
		main, many = replaced(main, told)
	}
	return tree.Prog{Enums: p.Enums, Vars: p.Vars, Main: main}
}

func bodyOf(p tree.Prog, name string) []tree.Stmt {
	i := slices.IndexFunc(p.Procs, func(q tree.Proc) bool { return q.Name == name })
	return p.Procs[i].Body
}

// stmtsOf are all statements, those within one behind it: of its A, then of its B.
func stmtsOf(l []tree.Stmt) []tree.Stmt {
	var all []tree.Stmt
	for _, s := range l {
		all = append(append(append(all, s), stmtsOf(s.A)...), stmtsOf(s.B)...)
	}
	return all
}

func modelCalls(l []tree.Stmt) []string {
	var names []string
	for _, s := range stmtsOf(l) {
		if s.Op == "call" {
			names = append(names, s.Name)
		}
	}
	return names
}

// modelMany counts without an end, then as far as the chapter does.
func modelMany(p tree.Prog) int {
	known := map[string]*big.Int{}
	var count func(l []tree.Stmt) *big.Int
	count = func(l []tree.Stmt) *big.Int {
		n := new(big.Int)
		for _, s := range stmtsOf(l) {
			if s.Op != "call" {
				n.Add(n, big.NewInt(1))
				continue
			}
			if known[s.Name] == nil {
				known[s.Name] = count(bodyOf(p, s.Name))
			}
			n.Add(n, known[s.Name])
		}
		return n
	}
	if n := count(p.Main); n.Cmp(big.NewInt(401)) < 0 {
		return int(n.Int64())
	}
	return 401
}

// modelOrder is the first row of all procedures, of those that begin with the one declared first on, that has each behind all it calls.
func modelOrder(p tree.Prog) []string {
	var try func(row []string) []string
	try = func(row []string) []string {
		if len(row) == len(p.Procs) {
			if isOrder(p, row) {
				return row
			}
			return nil
		}
		for _, q := range p.Procs {
			if slices.Contains(row, q.Name) {
				continue
			}
			if all := try(append(slices.Clone(row), q.Name)); all != nil {
				return all
			}
		}
		return nil
	}
	return try([]string{})
}

func isOrder(p tree.Prog, row []string) bool {
	for i, name := range row {
		for _, called := range modelCalls(bodyOf(p, name)) {
			if !slices.Contains(row[:i], called) {
				return false
			}
		}
	}
	return true
}

// sign tells all of a program, with its places; an empty row is as good as none.
func sign(p tree.Prog) string { return fmt.Sprintf("%+v", p) }

// overwrite changes all that a program has, in its rows.
func overwrite(p tree.Prog) {
	for i := range p.Enums {
		for j := range p.Enums[i].L {
			p.Enums[i].L[j] = "spoiled"
		}
		p.Enums[i].Name = "spoiled"
	}
	for i := range p.Vars {
		p.Vars[i] = tree.Var{Name: "spoiled"}
	}
	for i := range p.Procs {
		overwriteBlock(p.Procs[i].Body)
		p.Procs[i].Name = "spoiled"
	}
	overwriteBlock(p.Main)
}

func overwriteBlock(l []tree.Stmt) {
	for i, s := range l {
		overwriteExprs(s.E)
		overwriteBlock(s.A)
		overwriteBlock(s.B)
		l[i] = tree.Stmt{Op: "spoiled"}
	}
}

func overwriteExprs(l []tree.Expr) {
	for i, e := range l {
		overwriteExprs(e.L)
		l[i] = tree.Expr{Op: "spoiled"}
	}
}
