package check

import (
	"helmsman/api"
	"helmsman/tree"
)

// program tells of the first statement that may not be: the procedures' in order, then main's.
func (n names) program() (int, api.Errno) {
	for _, l := range bodies(n.p) {
		if at, e := n.block(l); e != api.OK {
			return at, e
		}
	}
	return 0, api.OK
}

func (n names) block(l []tree.Stmt) (int, api.Errno) {
	for _, s := range l {
		if at, e := first(n.rules(s)); e != api.OK {
			return at, e
		}
	}
	return 0, api.OK
}

// rules are those of one statement, with those within it. What its expressions are is told by one, and asked by the next.
func (n names) rules(s tree.Stmt) []rule {
	var types []string
	return []rule{
		func() (int, api.Errno) {
			if !isFormed(s) {
				return s.At, api.ErrCheckType
			}
			return 0, api.OK
		},
		func() (at int, e api.Errno) {
			types, at, e = n.types(s.E)
			return at, e
		},
		func() (int, api.Errno) { return s.At, n.fault(s, types) },
		func() (int, api.Errno) { return n.block(s.A) },
		func() (int, api.Errno) { return n.block(s.B) },
	}
}

// isFormed tells whether a statement has all that its Op asks for, and nothing else.
func isFormed(s tree.Stmt) bool {
	exprs, blocks, named := 0, 0, false
	switch s.Op {
	case "set":
		exprs, named = 1, true
	case "put":
		exprs, named = 2, true
	case "input":
		exprs, named = 2, true
		if len(s.E) == 0 {
			exprs = 0
		}
	case "if":
		exprs, blocks = 1, 2
	case "while":
		exprs, blocks = 1, 1
	case "assert", "assume":
		exprs = 1
	case "call":
		named = true
	case "skip":
	default:
		return false
	}
	return len(s.E) == exprs && (named || s.Name == "") &&
		(blocks > 0 || len(s.A) == 0) && (blocks > 1 || len(s.B) == 0)
}

// fault tells why a statement itself may not be, whose expressions are of these types; else OK.
func (n names) fault(s tree.Stmt, types []string) api.Errno {
	right := true
	switch s.Op {
	case "set":
		t, is := n.single(s.Name)
		if !is {
			return api.ErrCheckName
		}
		right = are(types, 1, t)
	case "put":
		if !n.isArray(s.Name) {
			return api.ErrCheckName
		}
		right = are(types, 2, intType)
	case "input":
		return n.inputFault(s)
	case "if", "while", "assert", "assume":
		right = are(types, 1, boolType)
	case "call":
		if _, is := n.procs[s.Name]; !is {
			return api.ErrCheckName
		}
	}
	if !right {
		return api.ErrCheckType
	}
	return api.OK
}

// inputFault tells why a variable may not be input like this: an int's ends are told, of all others the values are known.
func (n names) inputFault(s tree.Stmt) api.Errno {
	t, is := n.single(s.Name)
	if !is {
		return api.ErrCheckName
	}
	right := len(s.E) == 0
	if t == intType {
		right = areEnds(s.E)
	}
	if !right {
		return api.ErrCheckRange
	}
	return api.OK
}

// areEnds tells whether two numbers are written there, the first one not above the second one.
func areEnds(l []tree.Expr) bool {
	if len(l) != 2 {
		return false
	}
	low, is := number(l[0])
	high, also := number(l[1])
	return is && also && low <= high
}

// number tells the number that is written, with a - or without.
func number(e tree.Expr) (int, bool) {
	switch {
	case e.Op == "num":
		return e.N, true
	case e.Op == "neg" && e.L[0].Op == "num":
		return -e.L[0].N, true
	}
	return 0, false
}
