package parse

import (
	"helmsman/api"
	"helmsman/lexer"
	"helmsman/tree"
)

// aName is the key of the rule for a statement that begins with a name: no token has such a text.
const aName = "a name"

// rule reads how a statement goes on behind its first token.
type rule func(*parser, tree.Stmt) tree.Stmt

// rules tells the rule of each first token of a statement.
func rules() map[string]rule {
	return map[string]rule{
		aName:    (*parser).change,
		"if":     (*parser).choice,
		"while":  (*parser).loop,
		"assert": (*parser).claim,
		"assume": (*parser).claim,
		"call":   (*parser).call,
		"skip":   (*parser).end,
	}
}

// program reads what is declared, and main.
func (p *parser) program() tree.Prog {
	var q tree.Prog
	for p.fault == api.OK && !p.is("main") {
		p.declare(&q)
	}
	p.expect("main")
	q.Main = p.block()
	return q
}

// declare reads an enum, a variable or a procedure into q.
func (p *parser) declare(q *tree.Prog) {
	switch {
	case p.skip("enum"):
		q.Enums = append(q.Enums, p.enum())
	case p.skip("var"):
		q.Vars = append(q.Vars, p.variable())
	case p.skip("proc"):
		q.Procs = append(q.Procs, tree.Proc{Name: p.name(), Body: p.block()})
	default:
		p.fail(api.ErrParse)
	}
}

func (p *parser) enum() tree.Enum {
	e := tree.Enum{Name: p.name()}
	p.expect("{")
	e.L = append(e.L, p.name())
	for p.skip(",") {
		e.L = append(e.L, p.name())
	}
	p.expect("}")
	return e
}

func (p *parser) variable() tree.Var {
	v := tree.Var{Name: p.name()}
	p.expect(":")
	v.Type = p.typeName()
	if p.skip("[") {
		v.Len = p.size()
		p.expect("]")
	}
	p.expect(";")
	return v
}

func (p *parser) typeName() string {
	if p.is("int") || p.is("bool") {
		return p.take().Text
	}
	return p.name()
}

// size reads how many places an array has.
func (p *parser) size() int {
	if t := p.next(); t.Kind != lexer.Number || t.N < 1 {
		p.fail(api.ErrParse)
	}
	return p.take().N
}

// block reads statements, with { and } around them.
func (p *parser) block() []tree.Stmt {
	if p.is("{") && p.blocks >= api.MaxDepth {
		p.fail(api.ErrParseDeep)
	}
	p.expect("{")
	p.blocks++
	var l []tree.Stmt
	for p.fault == api.OK && !p.is("}") {
		l = append(l, p.stmt())
	}
	p.blocks--
	p.expect("}")
	return l
}

// stmt reads a statement, which goes on as the rule of its first token says.
func (p *parser) stmt() tree.Stmt {
	t := p.next()
	s := tree.Stmt{Op: t.Text, At: t.At}
	if isName(t) {
		s.Op, s.Name = aName, t.Text
	}
	goOn, is := p.rules[s.Op]
	if !is {
		p.fail(api.ErrParse)
		return tree.Stmt{}
	}
	p.take()
	return goOn(p, s)
}

// change is the rule for what changes a variable, or an array's place.
func (p *parser) change(s tree.Stmt) tree.Stmt {
	if p.skip("[") {
		return p.put(s)
	}
	p.expect("=")
	if p.skip("input") {
		return p.input(s)
	}
	s.Op, s.E = "set", []tree.Expr{p.expr()}
	return p.end(s)
}

// put goes on behind the bracket ahead of the index.
func (p *parser) put(s tree.Stmt) tree.Stmt {
	index := p.expr()
	p.expect("]")
	p.expect("=")
	s.Op, s.E = "put", []tree.Expr{index, p.expr()}
	return p.end(s)
}

// input goes on behind the word input.
func (p *parser) input(s tree.Stmt) tree.Stmt {
	s.Op = "input"
	if p.skip("(") {
		from := p.expr()
		p.expect(",")
		s.E = []tree.Expr{from, p.expr()}
		p.expect(")")
	}
	return p.end(s)
}

func (p *parser) choice(s tree.Stmt) tree.Stmt {
	s = p.loop(s)
	if p.skip("else") {
		s.B = p.block()
	}
	return s
}

func (p *parser) loop(s tree.Stmt) tree.Stmt {
	s.E = []tree.Expr{p.expr()}
	s.A = p.block()
	return s
}

func (p *parser) claim(s tree.Stmt) tree.Stmt {
	s.E = []tree.Expr{p.expr()}
	return p.end(s)
}

func (p *parser) call(s tree.Stmt) tree.Stmt {
	s.Name = p.name()
	return p.end(s)
}

// end reads what a statement without a block ends with.
func (p *parser) end(s tree.Stmt) tree.Stmt {
	p.expect(";")
	return s
}
