package check

import (
	"helmsman/api"
	"helmsman/tree"
)

// names keeps where in a program each name was met first, as one of each kind of what is declared.
type names struct {
	p                          tree.Prog
	enums, values, vars, procs map[string]int
}

// meet goes through all names of a program, whether it may be or not.
func meet(p tree.Prog) names {
	n := names{p, map[string]int{}, map[string]int{}, map[string]int{}, map[string]int{}}
	for i, e := range p.Enums {
		met(n.enums, e.Name, i)
		for _, value := range e.L {
			met(n.values, value, i)
		}
	}
	for i, v := range p.Vars {
		met(n.vars, v.Name, i)
	}
	for i, q := range p.Procs {
		met(n.procs, q.Name, i)
	}
	return n
}

// met keeps the first place of a name.
func met(l map[string]int, name string, at int) {
	if _, is := l[name]; !is {
		l[name] = at
	}
}

func (n names) isEnum(name string) bool {
	_, is := n.enums[name]
	return is
}

func (n names) variable(name string) (tree.Var, bool) {
	i, is := n.vars[name]
	if !is {
		return tree.Var{}, false
	}
	return n.p.Vars[i], true
}

// single tells the type of a variable that is no array.
func (n names) single(name string) (string, bool) {
	v, is := n.variable(name)
	if !is || isArray(v) {
		return "", false
	}
	return v.Type, true
}

// isArray tells whether there is an array of this name.
func (n names) isArray(name string) bool {
	v, is := n.variable(name)
	return is && isArray(v)
}

// Type tells an expression's type; or a place, and why it has none.
func Type(p tree.Prog, e tree.Expr) (string, int, api.Errno) { return meet(p).typed(e) }

func (n names) typed(e tree.Expr) (string, int, api.Errno) {
	parts, at, err := n.types(e.L)
	if err != api.OK {
		return "", at, err
	}
	t, err := n.joined(e, parts)
	if err != api.OK {
		return "", e.At, err
	}
	return t, 0, api.OK
}

// types tells the types of expressions; or a place, and why the first one that has none has none.
func (n names) types(l []tree.Expr) ([]string, int, api.Errno) {
	types := make([]string, len(l))
	for i, e := range l {
		t, at, err := n.typed(e)
		if err != api.OK {
			return nil, at, err
		}
		types[i] = t
	}
	return types, 0, api.OK
}

// joined tells the type of an expression whose parts are of these types.
func (n names) joined(e tree.Expr, parts []string) (string, api.Errno) {
	if !isPlain(e) || !n.fit(e.Op, parts) {
		return "", api.ErrCheckType
	}
	switch e.Op {
	case "num":
		if e.N < 0 || e.N > api.Max {
			return "", api.ErrCheckMany
		}
		return intType, api.OK
	case "name":
		return n.named(e.Name)
	case "at":
		if !n.isArray(e.Name) {
			return "", api.ErrCheckName
		}
		return intType, api.OK
	case "neg", "+", "-", "*", "/":
		return intType, api.OK
	}
	return boolType, api.OK
}

// isPlain tells whether an expression has no Name, and no N, but where its Op asks for it: what was there, and isn't printed, would be lost.
func isPlain(e tree.Expr) bool {
	return (e.Name == "" || e.Op == "name" || e.Op == "at") && (e.N == 0 || e.Op == "num")
}

// fit tells whether there is such an Op, of as many parts, of these types.
func (n names) fit(op string, parts []string) bool {
	switch op {
	case "num", "name", "true", "false":
		return len(parts) == 0
	case "at", "neg":
		return are(parts, 1, intType)
	case "not":
		return are(parts, 1, boolType)
	case "+", "-", "*", "/", "<", "<=", ">", ">=":
		return are(parts, 2, intType)
	case "&&", "||":
		return are(parts, 2, boolType)
	case "==", "!=":
		return are(parts, 2, intType) || len(parts) == 2 && n.isEnum(parts[0]) && parts[0] == parts[1]
	}
	return false
}

// are tells whether there are so many types, all this one.
func are(types []string, many int, this string) bool {
	for _, t := range types {
		if t != this {
			return false
		}
	}
	return len(types) == many
}

// named tells the type of a variable, or of an enum's value. (What a variable is called is no value any more.)
func (n names) named(name string) (string, api.Errno) {
	if _, is := n.variable(name); is {
		if t, is := n.single(name); is {
			return t, api.OK
		}
		return "", api.ErrCheckName
	}
	if i, is := n.values[name]; is {
		return n.p.Enums[i].Name, api.OK
	}
	return "", api.ErrCheckName
}
