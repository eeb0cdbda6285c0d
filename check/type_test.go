package check

import (
	"fmt"
	"math"
	"slices"
	"testing"

	"helmsman/api"
	"helmsman/parse"
	"helmsman/tree"
)

// typed fails, if Type tells anything else of an expression.
func typed(t *testing.T, p tree.Prog, e tree.Expr, want string, at int, err api.Errno) {
	t.Helper()
	if of, place, got := Type(p, e); of != want || place != at || got != err {
		t.Errorf("P14.2: Type of %v is %q, %d, %v, not %q, %d, %v", e, of, place, got, want, at, err)
	}
}

// TestType: right and wrong expressions, as they are read.
func TestType(t *testing.T) {
	p := read(t, head+"main { }")
	for src, want := range map[string]string{
		"0": "int", "1152921504606846976": "int", "x": "int", "-x": "int", "- -1": "int", "a[0]": "int", "a[a[x] + 1]": "int", "x + 1 - 2 * y / 3": "int",
		"true": "bool", "false": "bool", "b": "bool", "!b": "bool", "!!true": "bool", "b && true || !b": "bool",
		"1 < 2": "bool", "x <= y": "bool", "x > a[1]": "bool", "x >= -1": "bool", "x == 1": "bool", "1 != y": "bool", "m == m": "bool", "m != halt": "bool", "idle == run": "bool", "only == o": "bool",
		"m": "mode", "o": "one", "run": "mode", "only": "one",
	} {
		typed(t, p, mustRead(t, src), want, 0, api.OK)
	}
	for src, want := range map[string]struct {
		at int
		e  api.Errno
	}{
		"z": {0, api.ErrCheckName}, "a": {0, api.ErrCheckName}, "tick": {0, api.ErrCheckName}, "mode": {0, api.ErrCheckName},
		"z[0]": {0, api.ErrCheckName}, "x[0]": {0, api.ErrCheckName}, "b[0]": {0, api.ErrCheckName}, "idle[0]": {0, api.ErrCheckName},
		"a[b]": {0, api.ErrCheckType}, "a[m]": {0, api.ErrCheckType}, "x[b]": {0, api.ErrCheckType}, "z[b]": {0, api.ErrCheckType}, "z[z[0]]": {2, api.ErrCheckName},
		"-b": {0, api.ErrCheckType}, "-m": {0, api.ErrCheckType}, "!x": {0, api.ErrCheckType}, "!m": {0, api.ErrCheckType}, "!-b": {1, api.ErrCheckType}, "-!x": {1, api.ErrCheckType},
		"x + b": {2, api.ErrCheckType}, "b + x": {2, api.ErrCheckType}, "m + m": {2, api.ErrCheckType}, "b + b": {2, api.ErrCheckType}, "x - m": {2, api.ErrCheckType}, "b * 1": {2, api.ErrCheckType}, "1 / b": {2, api.ErrCheckType},
		"x && b": {2, api.ErrCheckType}, "b && x": {2, api.ErrCheckType}, "x && y": {2, api.ErrCheckType}, "b || m": {2, api.ErrCheckType}, "m || m": {2, api.ErrCheckType},
		"b < b": {2, api.ErrCheckType}, "m < m": {2, api.ErrCheckType}, "x <= b": {2, api.ErrCheckType}, "m > 1": {2, api.ErrCheckType}, "1 >= m": {2, api.ErrCheckType},
		"b == b": {2, api.ErrCheckType}, "true != false": {5, api.ErrCheckType}, "m == o": {2, api.ErrCheckType}, "idle != only": {5, api.ErrCheckType}, "x == b": {2, api.ErrCheckType}, "m == 0": {2, api.ErrCheckType}, "0 != m": {2, api.ErrCheckType}, "b == m": {2, api.ErrCheckType},
		// The parts first, from left to right, and what is within them ahead of them.
		"z + b": {0, api.ErrCheckName}, "b + z": {4, api.ErrCheckName}, "b + -b": {4, api.ErrCheckType}, "-b + z": {0, api.ErrCheckType}, "(1 + b) * z": {3, api.ErrCheckType}, "z * (1 + b)": {0, api.ErrCheckName}, "!(x == z)": {7, api.ErrCheckName},
	} {
		typed(t, p, mustRead(t, src), "", want.at, want.e)
	}
}

func mustRead(t *testing.T, src string) tree.Expr {
	t.Helper()
	e, at, err := parse.Expr(src)
	if err != api.OK {
		t.Fatalf("%q is no expression: %v at %d", src, err, at)
	}
	return e
}

// TestTypeForm: what isn't as its Op asks, ahead of all else but its parts.
func TestTypeForm(t *testing.T) {
	p := read(t, head+"main { }")
	one, yes, none := tree.Expr{Op: "num", N: 1, At: 9}, tree.Expr{Op: "true", At: 9}, tree.Expr{Op: "name", Name: "none", At: 8}
	forms := []struct {
		e       tree.Expr
		of      string
		name, n bool
	}{
		{tree.Expr{Op: "num", N: 7}, "int", false, true}, {tree.Expr{Op: "name", Name: "m"}, "mode", true, false}, {tree.Expr{Op: "at", Name: "a", L: []tree.Expr{one}}, "int", true, false},
		{tree.Expr{Op: "true"}, "bool", false, false}, {tree.Expr{Op: "false"}, "bool", false, false},
		{tree.Expr{Op: "neg", L: []tree.Expr{one}}, "int", false, false}, {tree.Expr{Op: "not", L: []tree.Expr{yes}}, "bool", false, false},
	}
	for _, op := range []string{"+", "-", "*", "/", "==", "!=", "<", "<=", ">", ">="} {
		of := "bool"
		if slices.Contains([]string{"+", "-", "*", "/"}, op) {
			of = "int"
		}
		forms = append(forms, forms[0])
		forms[len(forms)-1].e, forms[len(forms)-1].of, forms[len(forms)-1].n = tree.Expr{Op: op, L: []tree.Expr{one, one}}, of, false
	}
	for _, op := range []string{"&&", "||"} {
		forms = append(forms, forms[3])
		forms[len(forms)-1].e = tree.Expr{Op: op, L: []tree.Expr{yes, yes}}
	}
	for _, f := range forms {
		f.e.At = 4
		typed(t, p, f.e, f.of, 0, api.OK)
		wrong := func(change func(e *tree.Expr), at int, err api.Errno) {
			t.Helper()
			e := f.e
			change(&e)
			typed(t, p, e, "", at, err)
		}
		wrong(func(e *tree.Expr) { e.Op = "" }, 4, api.ErrCheckType)
		wrong(func(e *tree.Expr) { e.Op += " " }, 4, api.ErrCheckType)
		wrong(func(e *tree.Expr) { e.Op = "set" }, 4, api.ErrCheckType)
		for _, part := range []tree.Expr{one, yes} {
			wrong(func(e *tree.Expr) { e.L = append(slices.Clone(e.L), part) }, 4, api.ErrCheckType)
			wrong(func(e *tree.Expr) { e.L = append([]tree.Expr{part}, e.L...) }, 4, api.ErrCheckType)
		}
		wrong(func(e *tree.Expr) { e.L = append(slices.Clone(e.L), none) }, 8, api.ErrCheckName)
		wrong(func(e *tree.Expr) { e.Op, e.L = "", []tree.Expr{none} }, 8, api.ErrCheckName)
		for i := range f.e.L {
			wrong(func(e *tree.Expr) { e.L = e.L[:i] }, 4, api.ErrCheckType)
		}
		if !f.name {
			wrong(func(e *tree.Expr) { e.Name = "x" }, 4, api.ErrCheckType)
		} else {
			wrong(func(e *tree.Expr) { e.Name = "" }, 4, api.ErrCheckName)
			wrong(func(e *tree.Expr) { e.Name, e.N = "none", 1 }, 4, api.ErrCheckType)
		}
		if !f.n {
			wrong(func(e *tree.Expr) { e.N = 1 }, 4, api.ErrCheckType)
			wrong(func(e *tree.Expr) { e.N = -1 }, 4, api.ErrCheckType)
		}
	}
	for n, want := range map[int]api.Errno{math.MinInt: api.ErrCheckMany, -1: api.ErrCheckMany, api.Max + 1: api.ErrCheckMany, math.MaxInt: api.ErrCheckMany} {
		typed(t, p, tree.Expr{Op: "num", N: n, At: 4}, "", 4, want)
		typed(t, p, tree.Expr{Op: "num", N: n, Name: "x", At: 4}, "", 4, api.ErrCheckType)
		typed(t, p, tree.Expr{Op: "num", N: n, L: []tree.Expr{one}, At: 4}, "", 4, api.ErrCheckType)
	}
	typed(t, p, tree.Expr{Op: "num", N: api.Max, L: []tree.Expr{}}, "int", 0, api.OK)
}

// TestTypeTwice: names that are there twice, and types that there are not, in a program that may not be.
func TestTypeTwice(t *testing.T) {
	p := tree.Prog{
		Enums: []tree.Enum{{Name: "e", L: []string{"c", "x", "l"}}, {Name: "f", L: []string{"d", "c"}}},
		Vars:  []tree.Var{{Name: "x", Type: "int"}, {Name: "x", Type: "bool", Len: 2}, {Name: "l", Type: "bool", Len: 3}, {Name: "l", Type: "int"}, {Name: "g", Type: "h"}, {Name: "k", Type: "int", Len: -1}},
	}
	for name, want := range map[string]string{"c": "e", "x": "int", "d": "f", "g": "h", "k": "int"} {
		typed(t, p, tree.Expr{Op: "name", Name: name}, want, 0, api.OK)
	}
	for _, name := range []string{"l", "e", "h", "int"} {
		typed(t, p, tree.Expr{Op: "name", Name: name, At: 3}, "", 3, api.ErrCheckName)
	}
	at := func(name string) tree.Expr {
		return tree.Expr{Op: "at", Name: name, L: []tree.Expr{{Op: "num"}}, At: 3}
	}
	typed(t, p, at("l"), "int", 0, api.OK)
	for _, name := range []string{"x", "k", "c", "g"} {
		typed(t, p, at(name), "", 3, api.ErrCheckName)
	}
	same := func(a, b string) tree.Expr {
		return tree.Expr{Op: "==", L: []tree.Expr{{Op: "name", Name: a}, {Op: "name", Name: b}}, At: 3}
	}
	typed(t, p, same("c", "c"), "bool", 0, api.OK)
	typed(t, p, same("c", "d"), "", 3, api.ErrCheckType)
	typed(t, p, same("g", "g"), "", 3, api.ErrCheckType) // h is no enum
	typed(t, tree.Prog{}, tree.Expr{Op: "name"}, "", 0, api.ErrCheckName)
}

// TestNesting: as many levels as the document asks for.
func TestNesting(t *testing.T) {
	const levels = 1 << 16
	e := tree.Expr{Op: "num", At: 7}
	for range levels - 1 {
		e = tree.Expr{Op: "neg", L: []tree.Expr{e}}
	}
	typed(t, tree.Prog{}, e, "int", 0, api.OK)
	typed(t, tree.Prog{}, tree.Expr{Op: "not", L: []tree.Expr{e}, At: 2}, "", 2, api.ErrCheckType)
	wants(t, "a deep expression", tree.Prog{Main: []tree.Stmt{{Op: "assert", E: []tree.Expr{e}}}}, 0, api.ErrCheckMany)
	var l []tree.Stmt
	for range levels {
		l = []tree.Stmt{{Op: "if", B: l}}
	}
	wants(t, "deep statements", tree.Prog{Main: l}, 0, api.ErrCheckMany)
	wide := tree.Expr{Op: "+", L: make([]tree.Expr, 100000)}
	for i := range wide.L {
		wide.L[i] = tree.Expr{Op: "name", Name: "v99999"}
	}
	var p tree.Prog
	for i := range 100000 {
		p.Vars = append(p.Vars, tree.Var{Name: fmt.Sprint("v", i), Type: "int"})
	}
	typed(t, p, wide, "", 0, api.ErrCheckType)
}

// TestModelType holds Type against the chapter's words, in programs that may be, and in such that may not.
func TestModelType(t *testing.T) {
	met := map[api.Errno]int{}
	for seed := range 6000 {
		d := newDice(seed)
		p := newProg(d)
		p = d.spoiled(p, d(6))
		for _, l := range (&model{p: p}).bodies() {
			for _, s := range stmtsOf(l) {
				for _, e := range exprsOf(s.E) {
					of, at, err := Type(p, *e)
					met[err]++
					if want, f := modelType(p, *e); of != want || f != (fault{at, err}) {
						t.Fatalf("P14.2: seed %d: Type of %v is %q, %d, %v, not %q, %v", seed, *e, of, at, err, want, f)
					}
				}
			}
		}
	}
	if met[api.OK] < 1000 || met[api.ErrCheckName] < 100 || met[api.ErrCheckType] < 100 || met[api.ErrCheckMany] < 20 {
		t.Errorf("too few expressions of a kind were made: %v", met)
	}
}
