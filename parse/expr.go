package parse

import (
	"helmsman/api"
	"helmsman/lexer"
	"helmsman/tree"
)

// The levels of signs between two parts: the parts of a level are what the next one reads.
const (
	either = iota + 1
	both
	comparison
	sum
	product
	single // has no such sign
)

// level tells the level of a sign between two parts; 0 of any other text.
func level(sign string) int {
	switch sign {
	case "||":
		return either
	case "&&":
		return both
	case "==", "!=", "<", "<=", ">", ">=":
		return comparison
	case "+", "-":
		return sum
	case "*", "/":
		return product
	}
	return 0
}

// expr reads an expression.
func (p *parser) expr() tree.Expr { return p.parts(either) }

// parts reads parts with signs of a level between them, or one part alone.
func (p *parser) parts(of int) tree.Expr {
	if of == single {
		return p.part()
	}
	e := p.parts(of + 1)
	for level(p.next().Text) == of {
		sign := p.take()
		e = tree.Expr{Op: sign.Text, L: []tree.Expr{e, p.parts(of + 1)}, At: sign.At}
		if of == comparison {
			// What is compared isn't compared again, but in brackets.
			break
		}
	}
	return e
}

// part reads what has no sign between two parts, but in brackets.
func (p *parser) part() tree.Expr {
	t := p.next()
	switch {
	case t.Text == "-":
		return p.opposite("neg")
	case t.Text == "!":
		return p.opposite("not")
	case t.Text == "(":
		return p.opened(")")
	case t.Text == "true" || t.Text == "false":
		p.take()
		return tree.Expr{Op: t.Text, At: t.At}
	case t.Kind == lexer.Number:
		p.take()
		return tree.Expr{Op: "num", N: t.N, At: t.At}
	case isName(t):
		return p.named()
	}
	p.fail(api.ErrParse)
	return tree.Expr{}
}

// opposite reads a sign, and the part that it makes an expression of this Op of.
func (p *parser) opposite(op string) tree.Expr {
	e := tree.Expr{Op: op, At: p.next().At}
	p.enter()
	e.L = []tree.Expr{p.part()}
	p.within--
	return e
}

// named reads a variable's name, or an array's with an index.
func (p *parser) named() tree.Expr {
	t := p.take()
	e := tree.Expr{Op: "name", Name: t.Text, At: t.At}
	if p.is("[") {
		e.Op, e.L = "at", []tree.Expr{p.opened("]")}
	}
	return e
}

// opened reads an expression, with the bracket ahead of it, and the one that closes it.
func (p *parser) opened(closing string) tree.Expr {
	p.enter()
	e := p.expr()
	p.within--
	p.expect(closing)
	return e
}

// enter goes behind a sign of which the next part stands within, unless too many of them are within one another.
func (p *parser) enter() {
	if p.within >= 2*api.MaxDepth {
		p.fail(api.ErrParseDeep)
	}
	p.within++
	p.take()
}
