package parse

import (
	"slices"
	"strings"

	"helmsman/api"
	"helmsman/lexer"
)

// The chapter's reserved names.
func reserved() []string {
	return strings.Fields("enum var proc main if else while assert assume call skip input true false int bool")
}

// chapterRules are the chapter's, with ~ between two of the same. A { or a sign with ^ ahead of it is one that the
// chapter counts; what is behind it in the same rule stands within it.
func chapterRules() map[string]string {
	return map[string]string{
		"<program>":  "<declared> main <block>",
		"<declared>": "~ <enum> <declared> ~ <var> <declared> ~ <proc> <declared>",
		"<enum>":     "enum NAME { NAME <more> }",
		"<more>":     "~ , NAME <more>",
		"<var>":      "var NAME : <type> ; ~ var NAME : <type> [ SIZE ] ;",
		"<type>":     "int ~ bool ~ NAME",
		"<proc>":     "proc NAME <block>",
		"<block>":    "^{ <stmts> }",
		"<stmts>":    "~ <stmt> <stmts>",
		"<stmt>": "NAME = input ; ~ NAME = input ( <expr> , <expr> ) ; ~ NAME = <expr> ; ~ NAME [ <expr> ] = <expr> ;" +
			"~ if <expr> <block> ~ if <expr> <block> else <block> ~ while <expr> <block>" +
			"~ assert <expr> ; ~ assume <expr> ; ~ call NAME ; ~ skip ;",
		"<expr>":     "<and> <ors>",
		"<ors>":      "~ || <and> <ors>",
		"<and>":      "<compare> <ands>",
		"<ands>":     "~ && <compare> <ands>",
		"<compare>":  "<sum> ~ <sum> == <sum> ~ <sum> != <sum> ~ <sum> < <sum> ~ <sum> <= <sum> ~ <sum> > <sum> ~ <sum> >= <sum>",
		"<sum>":      "<product> <sums>",
		"<sums>":     "~ + <product> <sums> ~ - <product> <sums>",
		"<product>":  "<part> <products>",
		"<products>": "~ * <part> <products> ~ / <part> <products>",
		"<part>":     "^- <part> ~ ^! <part> ~ NUM ~ true ~ false ~ NAME ~ NAME ^[ <expr> ] ~ ^( <expr> )",
	}
}

// symbol is a token's text or kind, or what has rules, within so many blocks, and so many of the counted signs.
type symbol struct {
	text           string
	blocks, within int
}

// grammar has at most so many blocks, and so many of the counted signs, within one another.
type grammar struct {
	blocks, within int
	ways           map[string]string
	known          map[symbol][][]symbol
}

func newGrammar(blocks, within int) grammar {
	return grammar{blocks, within, chapterRules(), map[symbol][][]symbol{}}
}

// rules are those of a symbol; what would stand within too many is a symbol that no token is.
func (g grammar) rules(s symbol) [][]symbol {
	if _, is := g.known[s]; is || g.ways[s.text] == "" {
		return g.known[s]
	}
	for _, way := range strings.Split(g.ways[s.text], "~") {
		row, inner := []symbol{}, s
		for _, word := range strings.Fields(way) {
			text, counted := strings.CutPrefix(word, "^")
			if counted && text == "{" {
				inner.blocks++
			} else if counted {
				inner.within++
			}
			if counted && (inner.blocks > g.blocks || inner.within > g.within) {
				text = "NEVER"
			}
			row = append(row, symbol{text, inner.blocks, inner.within})
		}
		g.known[s] = append(g.known[s], row)
	}
	return g.known[s]
}

// is tells whether a symbol may be this token.
func (s symbol) is(t lexer.Token) bool {
	switch s.text {
	case "NAME":
		return t.Kind == lexer.Name && !slices.Contains(reserved(), t.Text)
	case "NUM":
		return t.Kind == lexer.Number
	case "SIZE":
		return t.Kind == lexer.Number && t.N >= 1
	}
	return t.Text == s.text
}

// item is a rule of left that began at a token, and of which so many symbols are read.
type item struct {
	left            symbol
	way, read, from int
}

// recognize tells how many tokens, from left to right, may be a beginning of start, and whether they are the whole of
// one. All rules that may be are gone on with at once, token by token (as Earley does), so that none is chosen ahead.
func (g grammar) recognize(start string, l []lexer.Token) (int, bool) {
	all := symbol{text: start}
	var rows [][]item
	var row []item
	for way := range g.rules(all) {
		row = append(row, item{all, way, 0, 0})
	}
	for i := 0; ; i++ {
		row = g.grow(rows, row)
		rows = append(rows, row)
		if i == len(l) {
			break
		}
		var next []item
		for _, x := range row {
			if left := g.left(x); len(left) > 0 && left[0].is(l[i]) {
				next = append(next, x.on())
			}
		}
		if len(next) == 0 {
			return i, false
		}
		row = next
	}
	return len(l), slices.ContainsFunc(row, func(x item) bool { return x.left == all && x.from == 0 && len(g.left(x)) == 0 })
}

// left are the symbols of an item that are not read yet.
func (g grammar) left(x item) []symbol { return g.rules(x.left)[x.way][x.read:] }

func (x item) on() item {
	x.read++
	return x
}

// grow adds all items that follow from those of a row, without another token.
func (g grammar) grow(rows [][]item, row []item) []item {
	here := len(rows)
	seen, empty := map[item]bool{}, map[symbol]bool{}
	for _, x := range row {
		seen[x] = true
	}
	add := func(x item) {
		if !seen[x] {
			seen[x] = true
			row = append(row, x)
		}
	}
	for n := 0; n < len(row); n++ {
		x := row[n]
		left := g.left(x)
		if len(left) == 0 {
			waiting := row
			if x.from < here {
				waiting = rows[x.from]
			} else {
				empty[x.left] = true
			}
			for _, y := range waiting {
				if l := g.left(y); len(l) > 0 && l[0] == x.left {
					add(y.on())
				}
			}
			continue
		}
		for way := range g.rules(left[0]) {
			add(item{left[0], way, 0, here})
		}
		if empty[left[0]] {
			add(x.on())
		}
	}
	return row
}

// model tells what a text of start is refused with, and where, or that it is none of both.
type model struct{ free, limited grammar }

func newModel() model { return model{newGrammar(1<<30, 1<<30), newGrammar(16, 32)} }

func (m model) answer(start, src string) (int, api.Errno) {
	l, at, e := lexer.Lex(src)
	if e != api.OK {
		return at, e
	}
	n, whole := m.free.recognize(start, l)
	if least, _ := m.limited.recognize(start, l); least < n {
		return l[least].At, api.ErrParseDeep
	}
	if whole {
		return len(src), api.OK
	}
	if n < len(l) {
		return l[n].At, api.ErrParse
	}
	return len(src), api.ErrParse
}
