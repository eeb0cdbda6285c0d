package check

import (
	"regexp"
	"slices"
	"strings"

	"helmsman/api"
	"helmsman/tree"
)

// fault is a place, and why a program may not be.
type fault struct {
	at int
	e  api.Errno
}

// model tells all that is wrong with a program by the chapter's words, in its order.
type model struct {
	p      tree.Prog
	faults []fault
}

func (m *model) wrong(is bool, at int, e api.Errno) {
	if is {
		m.faults = append(m.faults, fault{at, e})
	}
}

// modelCheck is the first thing that is wrong, or OK.
func modelCheck(p tree.Prog) fault {
	m := &model{p: p}
	for _, step := range []func(){m.many, m.names, m.types, m.limits, m.stmts, m.cycles, m.long} {
		step()
		if len(m.faults) > 0 {
			return m.faults[0]
		}
	}
	return fault{}
}

func (m *model) many() {
	m.wrong(len(m.p.Enums) > 16, 0, api.ErrCheckMany)
	m.wrong(len(m.p.Vars) > 16, 0, api.ErrCheckMany)
	m.wrong(len(m.p.Procs) > 16, 0, api.ErrCheckMany)
	for _, e := range m.p.Enums {
		m.wrong(len(e.L) < 1 || len(e.L) > 8, 0, api.ErrCheckMany)
	}
	for _, v := range m.p.Vars {
		m.wrong(v.Len < 0 || v.Len > 16, 0, api.ErrCheckMany)
	}
}

func (m *model) names() {
	var all []string
	for _, e := range m.p.Enums {
		all = append(all, e.Name)
		all = append(all, e.L...)
	}
	for _, v := range m.p.Vars {
		all = append(all, v.Name)
	}
	for _, q := range m.p.Procs {
		all = append(all, q.Name)
	}
	right := regexp.MustCompile(`\A[a-zA-Z][a-zA-Z0-9_]{0,15}\z`)
	reserved := strings.Fields("enum var proc main if else while assert assume call skip input true false int bool")
	for i, name := range all {
		m.wrong(!right.MatchString(name) || slices.Contains(reserved, name) || slices.Contains(all[:i], name), 0, api.ErrCheckName)
	}
}

func (m *model) types() {
	for _, v := range m.p.Vars {
		m.wrong(v.Type != "int" && (v.Len > 0 || v.Type != "bool" && m.enum(v.Type) == nil), 0, api.ErrCheckType)
	}
}

// enum is the first one of a name.
func (m *model) enum(name string) *tree.Enum {
	for i, e := range m.p.Enums {
		if e.Name == name {
			return &m.p.Enums[i]
		}
	}
	return nil
}

func (m *model) limits() {
	i := modelInfo(m.p)
	m.wrong(i.Bits > 12 || i.Ints > 6, 0, api.ErrCheckMany)
	for _, l := range m.bodies() {
		m.wrong(modelDepth(l) >= 16, 0, api.ErrCheckMany)
		for _, s := range stmtsOf(l) {
			for _, e := range s.E {
				m.wrong(modelDeep(e) > 16, 0, api.ErrCheckMany)
			}
		}
	}
}

func (m *model) bodies() [][]tree.Stmt {
	var l [][]tree.Stmt
	for _, q := range m.p.Procs {
		l = append(l, q.Body)
	}
	return append(l, m.p.Main)
}

func modelDepth(l []tree.Stmt) int {
	deepest := 0
	for _, s := range l {
		deepest = max(deepest, 1+modelDepth(append(slices.Clone(s.A), s.B...)))
	}
	return deepest
}

func modelDeep(e tree.Expr) int {
	if len(e.L) == 0 {
		return 1
	}
	deepest := 0
	for _, part := range e.L {
		deepest = max(deepest, modelDeep(part))
	}
	return deepest + 1
}

func (m *model) stmts() {
	for _, l := range m.bodies() {
		for _, s := range stmtsOf(l) {
			m.stmt(*s)
		}
	}
}

// shapes tell of each Op: N, if it has a Name, as many e as it has expressions, and A and B; of some there are two.
const shapes = "set:Ne put:Nee input:N input:Nee if:eAB while:eA assert:e assume:e call:N skip:"

// shaped tells whether a statement is in shapes; blocks may be empty.
func shaped(s tree.Stmt) bool {
	for _, shape := range strings.Fields(shapes) {
		op, has, _ := strings.Cut(shape, ":")
		if op == s.Op && strings.Count(has, "e") == len(s.E) &&
			(strings.Contains(has, "N") || s.Name == "") &&
			(strings.Contains(has, "A") || len(s.A) == 0) &&
			(strings.Contains(has, "B") || len(s.B) == 0) {
			return true
		}
	}
	return false
}

func (m *model) stmt(s tree.Stmt) {
	m.wrong(!shaped(s), s.At, api.ErrCheckType)
	var types []string
	for _, e := range s.E {
		t, f := modelType(m.p, e)
		m.wrong(f.e != api.OK, f.at, f.e)
		types = append(types, t)
	}
	if len(m.faults) > 0 {
		return
	}
	v := modelVar(m.p, s.Name)
	switch s.Op {
	case "set":
		m.wrong(v == nil || v.Len > 0, s.At, api.ErrCheckName)
		m.wrong(v != nil && v.Type != types[0], s.At, api.ErrCheckType)
	case "put":
		m.wrong(v == nil || v.Len <= 0, s.At, api.ErrCheckName)
		m.wrong(types[0] != "int" || types[1] != "int", s.At, api.ErrCheckType)
	case "input":
		m.wrong(v == nil || v.Len > 0, s.At, api.ErrCheckName)
		m.wrong(v != nil && !modelEnds(v.Type, s.E), s.At, api.ErrCheckRange)
	case "if", "while", "assert", "assume":
		m.wrong(types[0] != "bool", s.At, api.ErrCheckType)
	case "call":
		m.wrong(!slices.ContainsFunc(m.p.Procs, func(q tree.Proc) bool { return q.Name == s.Name }), s.At, api.ErrCheckName)
	}
}

// modelEnds tells whether a variable of this type may be input within these ends.
func modelEnds(of string, l []tree.Expr) bool {
	if of != "int" || len(l) < 2 {
		return of != "int" && len(l) == 0
	}
	var ends []int
	for _, e := range l {
		switch {
		case e.Op == "num":
			ends = append(ends, e.N)
		case e.Op == "neg" && e.L[0].Op == "num":
			ends = append(ends, 0-e.L[0].N)
		}
	}
	return len(ends) == 2 && ends[0] <= ends[1]
}

func modelVar(p tree.Prog, name string) *tree.Var {
	for i, v := range p.Vars {
		if v.Name == name {
			return &p.Vars[i]
		}
	}
	return nil
}

// modelType is the type of an expression, or what is wrong first.
func modelType(p tree.Prog, e tree.Expr) (string, fault) {
	var parts []string
	for _, part := range e.L {
		t, f := modelType(p, part)
		if f.e != api.OK {
			return "", f
		}
		parts = append(parts, t)
	}
	t, err := modelJoined(p, e, strings.Join(append(parts, ""), ","))
	if err != api.OK {
		return "", fault{e.At, err}
	}
	return t, fault{}
}

// modelRows tell an Op, the types of its parts, and its own one; those of names, and of what is the same, are told elsewhere.
const modelRows = `num:=int name:=? true:=bool false:=bool at:int,=? neg:int,=int not:bool,=bool
+:int,int,=int -:int,int,=int *:int,int,=int /:int,int,=int
&&:bool,bool,=bool ||:bool,bool,=bool
<:int,int,=bool <=:int,int,=bool >:int,int,=bool >=:int,int,=bool`

func modelJoined(p tree.Prog, e tree.Expr, parts string) (string, api.Errno) {
	type row struct{ op, parts, is string }
	var rows []row
	for _, r := range strings.Fields(modelRows) {
		op, rest, _ := strings.Cut(r, ":")
		i := strings.LastIndex(rest, "=")
		rows = append(rows, row{op, rest[:i], rest[i+1:]})
	}
	for _, op := range []string{"==", "!="} {
		rows = append(rows, row{op, "int,int,", "bool"})
		for _, of := range p.Enums {
			rows = append(rows, row{op, of.Name + "," + of.Name + ",", "bool"})
		}
	}
	hasName, hasN := e.Op == "name" || e.Op == "at", e.Op == "num"
	for _, r := range rows {
		if r.op != e.Op || r.parts != parts || !hasName && e.Name != "" || !hasN && e.N != 0 {
			continue
		}
		if r.is == "?" {
			return modelNamed(p, e)
		}
		if hasN && (e.N < 0 || e.N > 1<<60) {
			return "", api.ErrCheckMany
		}
		return r.is, api.OK
	}
	return "", api.ErrCheckType
}

func modelNamed(p tree.Prog, e tree.Expr) (string, api.Errno) {
	if v := modelVar(p, e.Name); v != nil {
		if (v.Len > 0) != (e.Op == "at") {
			return "", api.ErrCheckName
		}
		if e.Op == "at" {
			return "int", api.OK
		}
		return v.Type, api.OK
	}
	for _, of := range p.Enums {
		if e.Op == "name" && slices.Contains(of.L, e.Name) {
			return of.Name, api.OK
		}
	}
	return "", api.ErrCheckName
}

// cycles follows the calls of each procedure until nothing new is called.
func (m *model) cycles() {
	calls := map[string][]string{}
	for _, q := range m.p.Procs {
		for _, s := range stmtsOf(q.Body) {
			if s.Op == "call" {
				calls[q.Name] = append(calls[q.Name], s.Name)
			}
		}
	}
	for _, q := range m.p.Procs {
		met := slices.Clone(calls[q.Name])
		for i := 0; i < len(met); i++ {
			for _, name := range calls[met[i]] {
				if !slices.Contains(met, name) {
					met = append(met, name)
				}
			}
		}
		m.wrong(slices.Contains(met, q.Name), 0, api.ErrCheckCycle)
	}
}

func (m *model) long() { m.wrong(len(tree.Print(m.p)) > 4096, 0, api.ErrCheckMany) }

// modelInfo is the Info of a program whose variables are right.
func modelInfo(p tree.Prog) Info {
	var i Info
	for _, v := range p.Vars {
		x := Var{Name: v.Name, Of: v.Type}
		if v.Type == "bool" {
			x.Kind, x.Many, x.Wide = Bool, 2, 1
		} else if v.Type != "int" {
			x.Kind, x.Many = Enum, len((&model{p: p}).enum(v.Type).L)
			x.Wide = []int{0, 0, 1, 2, 2, 3, 3, 3, 3}[x.Many]
		} else if v.Len == 0 {
			x.Kind = Int
		} else {
			x.Kind, x.Many = Array, v.Len
		}
		for _, y := range i.Vars {
			x.At += map[bool]int{true: y.Wide}[x.Kind <= Enum]
			x.At += map[bool]int{true: 1}[x.Kind > Enum && x.Kind == y.Kind]
		}
		if x.Kind == Int {
			x.At++
		}
		i.Vars = append(i.Vars, x)
	}
	for _, x := range i.Vars {
		i.Bits += x.Wide
		i.Ints += map[bool]int{true: 1}[x.Kind == Int]
		i.Arrays += map[bool]int{true: 1}[x.Kind == Array]
	}
	return i
}

// stmtsOf are places of all statements, those within one behind it: of its A, then of its B.
func stmtsOf(l []tree.Stmt) []*tree.Stmt {
	var all []*tree.Stmt
	for i := range l {
		all = append(append(append(all, &l[i]), stmtsOf(l[i].A)...), stmtsOf(l[i].B)...)
	}
	return all
}

// exprsOf are places of all expressions, with all their parts.
func exprsOf(l []tree.Expr) []*tree.Expr {
	var all []*tree.Expr
	for i := range l {
		all = append(append(all, &l[i]), exprsOf(l[i].L)...)
	}
	return all
}
