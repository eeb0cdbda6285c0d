package tree

import (
	"strconv"
	"strings"
)

// writer puts together what is printed. So that no tree makes it panic, an expression
// that a tree lacks is written as nothing, and an Op that is none as itself.
type writer struct{ strings.Builder }

// Text tells an expression as it is written.
func Text(e Expr) string {
	var w writer
	w.expr(e)
	return w.String()
}

// Print tells a program as it is written.
func Print(p Prog) string {
	var w writer
	for _, e := range p.Enums {
		w.texts("enum ", e.Name, " { ", strings.Join(e.L, ", "), " }\n")
	}
	for _, v := range p.Vars {
		w.variable(v)
	}
	for _, q := range p.Procs {
		w.texts("proc ", q.Name)
		w.block(q.Body, 0)
		w.texts("\n")
	}
	w.texts("main")
	w.block(p.Main, 0)
	w.texts("\n")
	return w.String()
}

func (w *writer) texts(l ...string) {
	for _, s := range l {
		w.WriteString(s)
	}
}

func (w *writer) variable(v Var) {
	w.texts("var ", v.Name, ": ", v.Type)
	if v.Len > 0 {
		w.texts("[", strconv.Itoa(v.Len), "]")
	}
	w.texts(";\n")
}

// block goes on in a line that has begun, and leaves the one of its end open, since an else may be behind it.
func (w *writer) block(l []Stmt, depth int) {
	w.texts(" {\n")
	for _, s := range l {
		w.indent(depth + 1)
		w.stmt(s, depth+1)
		w.texts("\n")
	}
	w.indent(depth)
	w.texts("}")
}

func (w *writer) indent(depth int) {
	for range depth {
		w.WriteString("  ")
	}
}

// stmt writes a statement that stands in so many blocks, but for its first blanks and the end of its last line.
func (w *writer) stmt(s Stmt, depth int) {
	switch s.Op {
	case "if", "while":
		w.texts(s.Op, " ")
		w.part(s.E, 0)
		w.block(s.A, depth)
		if s.Op == "if" && len(s.B) > 0 {
			w.texts(" else")
			w.block(s.B, depth)
		}
	default:
		w.simple(s)
		w.texts(";")
	}
}

func (w *writer) simple(s Stmt) {
	switch s.Op {
	case "set":
		w.texts(s.Name, " = ")
		w.part(s.E, 0)
	case "put":
		w.place(s.Name, s.E)
		w.texts(" = ")
		w.part(s.E, 1)
	case "input":
		w.texts(s.Name, " = input")
		w.ends(s.E)
	case "assert", "assume":
		w.texts(s.Op, " ")
		w.part(s.E, 0)
	case "call":
		w.texts("call ", s.Name)
	default:
		w.texts(s.Op)
	}
}

// ends writes from where to where an input is, if that is told.
func (w *writer) ends(l []Expr) {
	if len(l) == 0 {
		return
	}
	w.texts("(")
	w.part(l, 0)
	w.texts(", ")
	w.part(l, 1)
	w.texts(")")
}

func (w *writer) expr(e Expr) {
	switch {
	case e.Op == "num":
		w.texts(strconv.Itoa(e.N))
	case e.Op == "name":
		w.texts(e.Name)
	case e.Op == "at":
		w.place(e.Name, e.L)
	case e.Op == "neg":
		w.texts("-")
		w.closed(e.L, 0)
	case e.Op == "not":
		w.texts("!")
		w.closed(e.L, 0)
	case ofTwo(e.Op):
		w.closed(e.L, 0)
		w.texts(" ", e.Op, " ")
		w.closed(e.L, 1)
	default:
		w.texts(e.Op)
	}
}

// place writes an array's name, and the first one of l as its index.
func (w *writer) place(name string, l []Expr) {
	w.texts(name, "[")
	w.part(l, 0)
	w.texts("]")
}

// part writes the expression i of l, if there is one.
func (w *writer) part(l []Expr, i int) {
	if i < len(l) {
		w.expr(l[i])
	}
}

// closed writes the part i of l so that nothing beside it can be taken as its own.
func (w *writer) closed(l []Expr, i int) {
	if i >= len(l) || !opens(l[i].Op) {
		w.part(l, i)
		return
	}
	w.texts("(")
	w.part(l, i)
	w.texts(")")
}

// opens tells whether an expression needs brackets where it is a part.
func opens(op string) bool { return op == "neg" || op == "not" || ofTwo(op) }

func ofTwo(op string) bool {
	switch op {
	case "+", "-", "*", "/", "==", "!=", "<", "<=", ">", ">=", "&&", "||":
		return true
	}
	return false
}
