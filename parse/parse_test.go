package parse

import (
	"fmt"
	"reflect"
	"strings"
	"testing"

	"helmsman/api"
	"helmsman/lexer"
	"helmsman/tree"
)

// shown tells a tree with all its places: Op, Name, N, At and parts.
func shown(e tree.Expr) string {
	s := e.Op + e.Name
	if e.Op == "num" || e.N != 0 {
		s += fmt.Sprint(e.N)
	}
	s += fmt.Sprintf("@%d", e.At)
	if len(e.L) == 0 {
		return s
	}
	l := make([]string, len(e.L))
	for i := range l {
		l[i] = shown(e.L[i])
	}
	return s + "(" + strings.Join(l, " ") + ")"
}

func shownExprs(l []tree.Expr) string {
	s := make([]string, len(l))
	for i := range l {
		s[i] = shown(l[i])
	}
	return strings.Join(s, ", ")
}

func shownBlock(l []tree.Stmt) string {
	t := "{"
	for _, s := range l {
		t += fmt.Sprintf("%s %s@%d: %s %s%s; ", s.Op, s.Name, s.At, shownExprs(s.E), shownBlock(s.A), shownBlock(s.B))
	}
	return t + "}"
}

func shownProg(p tree.Prog) string {
	s := fmt.Sprintf("%q ", p.Enums)
	for _, v := range p.Vars {
		s += fmt.Sprintf("%q %q %d ", v.Name, v.Type, v.Len)
	}
	for _, q := range p.Procs {
		s += q.Name + shownBlock(q.Body)
	}
	return s + shownBlock(p.Main)
}

// wantExpr fails, if Expr tells anything else of a text than this tree, with its places.
func wantExpr(t *testing.T, src, want string) {
	t.Helper()
	e, n, no := Expr(src)
	if shown(e) != want || n != len(src) || no != api.OK {
		t.Errorf("P13.2: Expr of %q is %s %d %d, not %s", src, shown(e), n, int(no), want)
	}
}

// noExpr fails, if Expr tells anything else of a text than this place and error.
func noExpr(t *testing.T, src string, at int, want api.Errno) {
	t.Helper()
	e, n, no := Expr(src)
	if !reflect.DeepEqual(e, tree.Expr{}) || n != at || no != want {
		t.Errorf("P13.2: Expr of %.80q is %s %d %d, not %d %d", src, shown(e), n, int(no), at, int(want))
	}
}

// wantMain fails, if Parse tells anything else of a text than a program of main alone, with these statements.
func wantMain(t *testing.T, src, want string) {
	t.Helper()
	p, n, no := Parse(src)
	if shownBlock(p.Main) != want || len(p.Enums)+len(p.Vars)+len(p.Procs) > 0 || n != len(src) || no != api.OK {
		t.Errorf("P13.1: Parse of %q is %s %d %d, not %s", src, shownProg(p), n, int(no), want)
	}
}

// noProg fails, if Parse tells anything else of a text than this place and error.
func noProg(t *testing.T, src string, at int, want api.Errno) {
	t.Helper()
	p, n, no := Parse(src)
	if !reflect.DeepEqual(p, tree.Prog{}) || n != at || no != want {
		t.Errorf("P13.1: Parse of %.80q is %s %d %d, not %d %d", src, shownProg(p), n, int(no), at, int(want))
	}
}

func TestErrors(t *testing.T) {
	if api.ErrLexSign != 110 || api.ErrLexLong != 111 || api.ErrParse != 130 || api.ErrParseDeep != 131 || api.MaxDepth != 16 {
		t.Error("P13.1: errors and limits")
	}
}

func TestReserved(t *testing.T) {
	if len(reserved()) != 16 {
		t.Fatal("P13.2: there are", len(reserved()), "reserved names")
	}
	for _, name := range reserved() {
		if !Reserved(name) {
			t.Error("P13.2: Reserved is false:", name)
		}
		for _, other := range []string{name + "s", name + " ", " " + name, name[1:], name[:len(name)-1], strings.ToUpper(name), strings.ToUpper(name[:1]) + name[1:], name + name, name + "\x00"} {
			if Reserved(other) {
				t.Errorf("P13.2: Reserved is true: %q", other)
			}
		}
		// No name of anything, wherever there is one.
		noProg(t, "enum "+name+" { a } main { }", 5, api.ErrParse)
		noProg(t, "enum m { "+name+" } main { }", 9, api.ErrParse)
		noProg(t, "enum m { a, "+name+" } main { }", 12, api.ErrParse)
		noProg(t, "var "+name+": int; main { }", 4, api.ErrParse)
		noProg(t, "proc "+name+" { } main { }", 5, api.ErrParse)
		noProg(t, "main { call "+name+"; }", 12, api.ErrParse)
		noProg(t, "main { x = y + "+name+"[0]; }", 15+len(name)*strings.Count(" true false ", " "+name+" "), api.ErrParse)
		if name != "true" && name != "false" {
			noExpr(t, name, 0, api.ErrParse)
		}
		if name != "int" && name != "bool" {
			noProg(t, "var x: "+name+"; main { }", 7, api.ErrParse)
		}
	}
	for _, name := range []string{"", "x", "mode", "Main", "enums", "elseif", "num", "name", "at", "not", "neg", "set", "put", "do", "for", "a name", "=", "{", "0"} {
		if Reserved(name) {
			t.Errorf("P13.2: Reserved is true: %q", name)
		}
	}
}

// TestChapter goes through the chapter's example.
func TestChapter(t *testing.T) {
	noProg(t, "main { x = 1 + ; }", 15, api.ErrParse)
}

func TestExprTold(t *testing.T) {
	wantExpr(t, "x", "namex@0")
	wantExpr(t, " 007 ", "num7@1")
	wantExpr(t, "1152921504606846976", "num1152921504606846976@0")
	wantExpr(t, "true", "true@0")
	wantExpr(t, "#\n false", "false@3")
	wantExpr(t, "a[3]", "ata@0(num3@2)")
	wantExpr(t, "a [ b[ c[i] ] ]", "ata@0(atb@4(atc@7(namei@9)))")
	wantExpr(t, "- 5", "neg@0(num5@2)")
	wantExpr(t, "!b", "not@0(nameb@1)")
	wantExpr(t, "-!-x", "neg@0(not@1(neg@2(namex@3)))")
	wantExpr(t, "-a[0]", "neg@0(ata@1(num0@3))")
	wantExpr(t, "x + y", "+@2(namex@0 namey@4)")
	wantExpr(t, "(x)", "namex@1")
	wantExpr(t, "(((x)))", "namex@3")
	wantExpr(t, "((x + y))", "+@4(namex@2 namey@6)")
	wantExpr(t, "(-x)", "neg@1(namex@2)")
	wantExpr(t, "-(x)", "neg@0(namex@2)")
	wantExpr(t, "(a)*(b)", "*@3(namea@1 nameb@5)")
	wantExpr(t, "a[(b)]", "ata@0(nameb@3)")
}

// TestExprBinds: what belongs together first.
func TestExprBinds(t *testing.T) {
	m := newModel()
	wantExpr(t, "a-b-c", "-@3(-@1(namea@0 nameb@2) namec@4)")
	wantExpr(t, "a-(b-c)", "-@1(namea@0 -@4(nameb@3 namec@5))")
	wantExpr(t, "a/b*c/d", "/@5(*@3(/@1(namea@0 nameb@2) namec@4) named@6)")
	wantExpr(t, "a+b*c", "+@1(namea@0 *@3(nameb@2 namec@4))")
	wantExpr(t, "a*b+c", "+@3(*@1(namea@0 nameb@2) namec@4)")
	wantExpr(t, "-a*b", "*@2(neg@0(namea@1) nameb@3)")
	wantExpr(t, "a*-b", "*@1(namea@0 neg@2(nameb@3))")
	wantExpr(t, "a--b", "-@1(namea@0 neg@2(nameb@3))")
	wantExpr(t, "-a-b", "-@2(neg@0(namea@1) nameb@3)")
	wantExpr(t, "!a==b", "==@2(not@0(namea@1) nameb@4)")
	wantExpr(t, "a<b+c", "<@1(namea@0 +@3(nameb@2 namec@4))")
	wantExpr(t, "a+b<c", "<@3(+@1(namea@0 nameb@2) namec@4)")
	wantExpr(t, "(a<b)<c", "<@5(<@2(namea@1 nameb@3) namec@6)")
	wantExpr(t, "a<(b<c)", "<@1(namea@0 <@4(nameb@3 namec@5))")
	wantExpr(t, "a&&b||c&&d", "||@4(&&@1(namea@0 nameb@3) &&@7(namec@6 named@9))")
	wantExpr(t, "a||b&&c||d", "||@7(||@1(namea@0 &&@4(nameb@3 namec@6)) named@9)")
	wantExpr(t, "a==b&&c", "&&@4(==@1(namea@0 nameb@3) namec@6)")
	// Each two, and each three of them, by how much they hold their parts together.
	for _, first := range twoOps() {
		for _, second := range twoOps() {
			src := "a " + first + " b " + second + " c"
			a, b := levelOf(first), levelOf(second)
			e, _, no := Expr(src)
			switch {
			case a == b && a == levelOf("=="):
				noExpr(t, src, 5+len(first), api.ErrParse)
			case a >= b:
				if no != api.OK || tree.Text(e) != "(a "+first+" b) "+second+" c" {
					t.Errorf("P13.1: %s is %s %d", src, tree.Text(e), int(no))
				}
			default:
				if no != api.OK || tree.Text(e) != "a "+first+" (b "+second+" c)" {
					t.Errorf("P13.1: %s is %s %d", src, tree.Text(e), int(no))
				}
			}
			for _, third := range twoOps() {
				held(t, m, src+" "+third+" -d")
			}
		}
	}
}

func TestExprRefused(t *testing.T) {
	m := newModel()
	for _, x := range []struct {
		src string
		at  int
	}{
		{"", 0}, {"  ", 2}, {"# x", 3}, {"+", 0}, {"+1", 0}, {"1+", 2}, {"1 + ", 4}, {"1 + # 2", 7}, {"1++1", 2}, {"1*/2", 2},
		{"a b", 2}, {"1 2", 2}, {"1a", 1}, {"a 1", 2}, {"true false", 5}, {"(", 1}, {"()", 1}, {"(a", 2}, {"(a))", 3}, {"(a,b)", 2}, {")", 0},
		{"a[", 2}, {"a[]", 2}, {"a[1", 3}, {"a[1)", 3}, {"a[1]]", 4}, {"a[1][2]", 4}, {"1[0]", 1}, {"(a)[0]", 3}, {"true[0]", 4}, {"a(1)", 1},
		{"-", 1}, {"!", 1}, {"-+1", 1}, {"a!b", 1}, {"a ! b", 2}, {"!!", 2}, {"a = b", 2}, {"a == == b", 5}, {"a <", 3},
		{"a < b < c", 6}, {"a == b == c", 7}, {"a < b == c", 6}, {"a && b < c <= d", 11}, {"(a < b) < c < d", 12}, {"a[b < c > d]", 8},
		{"a;", 1}, {"a {", 2}, {"a }", 2}, {"{", 0}, {"a:b", 1}, {"input", 0}, {"a + input", 4}, {"a + if", 4}, {"int", 0}, {"main { }", 0},
	} {
		noExpr(t, x.src, x.at, api.ErrParse)
		held(t, m, x.src)
	}
}

func TestProgTold(t *testing.T) {
	wantMain(t, "main{}", "{}")
	wantMain(t, "# no\nmain\n{\n}\n#", "{}")
	wantMain(t, "main { x = input; }", "{input x@7:  {}{}; }")
	wantMain(t, "main { x = input(0, 9); }", "{input x@7: num0@17, num9@20 {}{}; }")
	wantMain(t, "main { x = input(-(1), a + b); }", "{input x@7: neg@17(num1@19), +@25(namea@23 nameb@27) {}{}; }")
	wantMain(t, "main { x = (1); }", "{set x@7: num1@12 {}{}; }")
	wantMain(t, "main { a[i] = -1; }", "{put a@7: namei@9, neg@14(num1@15) {}{}; }")
	wantMain(t, "main { a[(b[0])]=a[1]; }", "{put a@7: atb@10(num0@12), ata@17(num1@19) {}{}; }")
	wantMain(t, "main { if b { } }", "{if @7: nameb@10 {}{}; }")
	wantMain(t, "main { if b { skip; } }", "{if @7: nameb@10 {skip @14:  {}{}; }{}; }")
	wantMain(t, "main { if b { } else { skip; } }", "{if @7: nameb@10 {}{skip @23:  {}{}; }; }")
	wantMain(t, "main { if b { skip; } else { } }", "{if @7: nameb@10 {skip @14:  {}{}; }{}; }")
	wantMain(t, "main { while x < 1 { x = x; } }", "{while @7: <@15(namex@13 num1@17) {set x@21: namex@25 {}{}; }{}; }")
	wantMain(t, "main { assert b; assume !b; }", "{assert @7: nameb@14 {}{}; assume @17: not@24(nameb@25) {}{}; }")
	wantMain(t, "main { call p; skip; skip; }", "{call p@7:  {}{}; skip @15:  {}{}; skip @21:  {}{}; }")
	// An else belongs to the if whose block ends ahead of it.
	wantMain(t, "main { if a { if b { } } else { skip; } }", "{if @7: namea@10 {if @14: nameb@17 {}{}; }{skip @32:  {}{}; }; }")
}

func TestDeclared(t *testing.T) {
	for _, x := range []struct {
		src  string
		want tree.Prog
	}{
		{"enum m { a } main { }", tree.Prog{Enums: []tree.Enum{{Name: "m", L: []string{"a"}}}}},
		{"enum m { a, b, a } main { }", tree.Prog{Enums: []tree.Enum{{Name: "m", L: []string{"a", "b", "a"}}}}},
		{"var x: int; main { }", tree.Prog{Vars: []tree.Var{{Name: "x", Type: "int"}}}},
		{"var x:bool;var y:m;main{}", tree.Prog{Vars: []tree.Var{{Name: "x", Type: "bool"}, {Name: "y", Type: "m"}}}},
		{"var x: int[1]; var y: bool[007]; var z: z[1152921504606846976]; main { }", tree.Prog{Vars: []tree.Var{{Name: "x", Type: "int", Len: 1}, {Name: "y", Type: "bool", Len: 7}, {Name: "z", Type: "z", Len: api.Max}}}},
		{"proc p { } proc q { skip; } main { }", tree.Prog{Procs: []tree.Proc{{Name: "p"}, {Name: "q", Body: []tree.Stmt{{Op: "skip"}}}}}},
		// In any order: of each kind as they stand.
		{"var y: m; proc p { } enum n { c } var x: int; enum m { a } proc o { } main { }", tree.Prog{
			Enums: []tree.Enum{{Name: "n", L: []string{"c"}}, {Name: "m", L: []string{"a"}}},
			Vars:  []tree.Var{{Name: "y", Type: "m"}, {Name: "x", Type: "int"}},
			Procs: []tree.Proc{{Name: "p"}, {Name: "o"}}}},
	} {
		p, n, no := Parse(x.src)
		if !tree.Same(p, x.want) || n != len(x.src) || no != api.OK {
			t.Errorf("P13.1: Parse of %q is %s %d %d", x.src, shownProg(p), n, int(no))
		}
	}
}

func TestProgRefused(t *testing.T) {
	for _, x := range []struct {
		src string
		at  int
	}{
		{"", 0}, {"\n", 1}, {"#", 1}, {"main", 4}, {"main ", 5}, {"main {", 6}, {"main { # }", 10}, {"main }", 5}, {"main ;", 5}, {"main x { }", 5}, {"main { } }", 9}, {"main { } main { }", 9},
		{"main { } var x: int;", 9}, {"main { };", 8}, {"x", 0}, {"{ }", 0}, {"skip;", 0}, {"Main { }", 0}, {"else", 0}, {"int x;", 0},
		{"enum", 4}, {"enum {", 5}, {"enum 1", 5}, {"enum m", 6}, {"enum m a", 7}, {"enum m {", 8}, {"enum m { }", 9}, {"enum m { , }", 9}, {"enum m { a", 10}, {"enum m { a b }", 11}, {"enum m { a, }", 12}, {"enum m { a,, b }", 11}, {"enum m { 1 }", 9}, {"enum m { a };", 12}, {"enum m { a }", 12},
		{"var", 3}, {"var 1", 4}, {"var x", 5}, {"var x int", 6}, {"var x = 1;", 6}, {"var x:", 6}, {"var x: 1", 7}, {"var x: ;", 7}, {"var x: int", 10}, {"var x: int,", 10}, {"var x: int y", 11}, {"var x: int[", 11}, {"var x: int[]", 11}, {"var x: int[n]", 11}, {"var x: int[-1]", 11}, {"var x: int[1", 12}, {"var x: int[1 + 1]", 13}, {"var x: int[1]", 13}, {"var x: int[1][2]", 13}, {"var x[1]: int", 5}, {"var x, y: int;", 5},
		{"var x: int[0]; main { }", 11}, {"var x: int[000]; main { }", 11}, {"var x: m[0]", 9},
		{"proc", 4}, {"proc {", 5}, {"proc p", 6}, {"proc p;", 6}, {"proc p()", 6}, {"proc p {", 8}, {"proc p { }", 10}, {"proc p { };", 10}, {"proc p { var x: int; }", 9}, {"proc p { proc q { } }", 9},
	} {
		noProg(t, x.src, x.at, api.ErrParse)
	}
}

func TestStmtRefused(t *testing.T) {
	for _, x := range []struct {
		src string
		at  int // behind "main { "
	}{
		{"", 0}, {";", 0}, {"skip", 4}, {"skip }", 5}, {"skip;; }", 5}, {"skip x;", 5}, {"{ }", 0}, {"else { }", 0}, {"1 = x;", 0}, {"(x) = 1;", 0}, {"true = x;", 0}, {"input;", 0}, {"int = 1;", 0}, {"main { }", 0}, {"= 1;", 0}, {"[1] = 1;", 0}, {"var x: int;", 0}, {"-x;", 0},
		{"x", 1}, {"x;", 1}, {"x 1;", 2}, {"x == 1;", 2}, {"x =", 3}, {"x = ;", 4}, {"x = 1", 5}, {"x = 1 }", 6}, {"x = 1 2;", 6}, {"x = 1; y", 8}, {"x = y = 1;", 6}, {"x = 1 +;", 7}, {"x = if;", 4}, {"x = -input;", 5}, {"x()", 1}, {"x: int;", 1},
		{"x = input", 9}, {"x = input }", 10}, {"x = input + 1;", 10}, {"x = input();", 10}, {"x = input(1);", 11}, {"x = input(1,);", 12}, {"x = input(1, 2;", 14}, {"x = input(1, 2, 3);", 14}, {"x = input(1, 2) + 1;", 16}, {"x = input(,", 10}, {"x = input[1];", 9}, {"x = input(input, 1);", 10}, {"x = (input);", 5},
		{"a[", 2}, {"a[]", 2}, {"a[0", 3}, {"a[0)", 3}, {"a[0];", 4}, {"a[0] =", 6}, {"a[0] = ;", 7}, {"a[0] = 1", 8}, {"a[0] = input;", 7}, {"a[0][1] = 1;", 4}, {"a[0] == 1;", 5}, {"a[0, 1] = 1;", 3},
		{"if", 2}, {"if {", 3}, {"if b", 4}, {"if b;", 4}, {"if b skip;", 5}, {"if (b) skip;", 7}, {"if b {", 6}, {"if b { }", 8}, {"if b { };", 8}, {"if b { } else", 13}, {"if b { } else skip;", 14}, {"if b { } else if c { }", 14}, {"if b { } else { } else { }", 18}, {"if b { else { } }", 7}, {"if b = c { }", 5}, {"if b < c < d { }", 9}, {"if b { } else ;", 14},
		{"while", 5}, {"while {", 6}, {"while b", 7}, {"while b;", 7}, {"while b {", 9}, {"while b { } else { }", 12},
		{"assert", 6}, {"assert;", 6}, {"assert b", 8}, {"assert b }", 9}, {"assert b {", 9}, {"assert b = c;", 9}, {"assume", 6}, {"assume;", 6}, {"assume b", 8}, {"assume b c;", 9}, {"assume input;", 7},
		{"call", 4}, {"call;", 4}, {"call p", 6}, {"call p()", 6}, {"call 1;", 5}, {"call p q;", 7}, {"call p + 1;", 7},
	} {
		noProg(t, "main { "+x.src, 7+x.at, api.ErrParse)
		noProg(t, "var x: int; proc p { "+x.src, 21+x.at, api.ErrParse)
		noProg(t, "main { if b { skip; } else { "+x.src, 29+x.at, api.ErrParse)
	}
}

// TestLexFirst: lexer's errors come ahead of all others, wherever they are.
func TestLexFirst(t *testing.T) {
	long, great := strings.Repeat("a", 17), "1152921504606846977"
	for _, head := range []string{"", "a b ", "main { ", "main { } } ", strings.Repeat("(", 40), strings.Repeat("main { if b { ", 20), "var x: int[0]; "} {
		for _, x := range []struct {
			text string
			want api.Errno
		}{{"$", api.ErrLexSign}, {"&", api.ErrLexSign}, {"_", api.ErrLexSign}, {"\xff", api.ErrLexSign}, {long, api.ErrLexLong}, {great, api.ErrLexLong}, {long + "$", api.ErrLexLong}} {
			noProg(t, head+x.text, len(head), x.want)
			noExpr(t, head+x.text, len(head), x.want)
			noProg(t, head+x.text+" ) $", len(head), x.want)
		}
	}
	noProg(t, "main { }"+strings.Repeat(" ", api.MaxSource), 0, api.ErrLexLong)
	noExpr(t, "x"+strings.Repeat("\n", api.MaxSource), 0, api.ErrLexLong)
	noProg(t, ") $"+strings.Repeat(" ", api.MaxSource), 0, api.ErrLexLong)
}

// TestSource: texts of as many bytes as there may be.
func TestSource(t *testing.T) {
	full := func(head, each, tail string) string {
		s := head + strings.Repeat(each, (api.MaxSource-len(head)-len(tail))/len(each)) + tail
		return s + strings.Repeat(" ", api.MaxSource-len(s))
	}
	for i, src := range []string{full("main {", "skip;", "}"), full("main {}", "\n", ""), full("main { x = 1", "+1", "; }"), full("enum m { a", ",a", "} main {}"), full("", "proc p{}", "main{}"), full("main{", "if b{}else{}", "}"), full("main { x = 1", "-(-1)", "; }")} {
		if _, n, no := Parse(src); len(src) != api.MaxSource || n != len(src) || no != api.OK {
			t.Error("P13.1: Parse of a full text:", i, len(src), n, int(no))
		}
		noProg(t, src+" ", 0, api.ErrLexLong)
	}
	for i, src := range []string{full("1", "+1", ""), full("1", "||a&&b", ""), full("a[0]", "*a[0]", "")} {
		e, n, no := Expr(src)
		if len(src) != api.MaxSource || n != len(src) || no != api.OK || e.At < 3000 {
			t.Error("P13.2: Expr of a full text:", i, n, int(no), e.At)
		}
	}
	noExpr(t, full("1", "+1", " +"), api.MaxSource, api.ErrParse)
	noProg(t, full("", "(", ""), 0, api.ErrParse)
	noExpr(t, full("", "(", ""), 32, api.ErrParseDeep)
	noExpr(t, full("", "!", ""), 32, api.ErrParseDeep)
	noProg(t, full("main {", "if b {", ""), 6+15*6+5, api.ErrParseDeep)
}

// TestBlocksDeep: a block may stand within 15 others, and main's, or a procedure's, is one of them.
func TestBlocksDeep(t *testing.T) {
	m := newModel()
	for _, head := range []string{"main { ", "proc p { ", "enum m { a } proc q { while b { } } proc p { skip; "} {
		tail := "} "
		if !strings.HasPrefix(head, "main") {
			tail += "main { }"
		}
		for _, x := range []string{"if b { ", "while b { ", "if b { } else { ", "while b { } if c { if d { } } else { "} {
			for k := range 20 {
				may := head + strings.Repeat(x, k)
				heldProg(t, m, may)
				heldProg(t, m, may+strings.Repeat("} ", k)+tail)
				heldProg(t, m, may+") ")
			}
		}
		may := head + strings.Repeat("while b { ", 15)
		if p, _, no := Parse(may + strings.Repeat("} ", 15) + tail); no != api.OK || len(p.Main)+len(p.Procs) == 0 {
			t.Error("P13.1: Parse of 16 blocks is", int(no))
		}
		noProg(t, may, len(may), api.ErrParse)
		noProg(t, may+"if b { ", len(may)+5, api.ErrParseDeep)
		noProg(t, may+"if b { } else { ", len(may)+5, api.ErrParseDeep)
		noProg(t, may+"if b { x x", len(may)+5, api.ErrParseDeep)
		noProg(t, may+"while b ) { ", len(may)+8, api.ErrParse)
		noProg(t, head+") "+may+"if b { ", len(head), api.ErrParse)
		noProg(t, may+"{ ", len(may), api.ErrParse)
	}
	// The second block of an if is counted as the first one is; what has ended is counted no more.
	src := "main { " + strings.Repeat("if b { } else { ", 15)
	noProg(t, src+"while b { ", len(src)+8, api.ErrParseDeep)
	noProg(t, src+"while b ;", len(src)+8, api.ErrParse)
	flat := "main { " + strings.Repeat("if b { while b { } } else { } ", 40) + "}"
	if p, _, no := Parse(flat); no != api.OK || len(p.Main) != 40 {
		t.Error("P13.1: Parse of many blocks beside one another is", int(no))
	}
}

// TestExprDeep: each of - ! ( [ may stand within 31 others of them, in one expression.
func TestExprDeep(t *testing.T) {
	m := newModel()
	for _, x := range []struct{ open, close string }{
		{"(", ")"}, {"-", ""}, {"!", ""}, {"a[", "]"}, {"-(", ")"}, {"!a[(", ")]"}, {"x + (", ") * 2"}, {"- ", ""}, {"1 - -", " - 1"}, {"(a[0] - ", ")"}, {"(b) - (-b) - (", ")"},
	} {
		for k := range 36 {
			held(t, m, strings.Repeat(x.open, k)+"y"+strings.Repeat(x.close, k))
			held(t, m, strings.Repeat(x.open, k)+"-y z")
		}
	}
	for _, x := range []struct {
		src string
		at  int
	}{
		{strings.Repeat("(", 33) + "1", 32}, {strings.Repeat("-", 33) + "1", 32}, {strings.Repeat("!", 33) + "1", 32}, {strings.Repeat("a[", 33) + "1", 65},
		{strings.Repeat("-(", 16) + "-1", 32}, {strings.Repeat("-(", 16) + "a[1]", 33}, {strings.Repeat("-(", 16) + "!x", 32},
		{strings.Repeat("(x - ", 32) + "-1", 160}, {strings.Repeat("(", 31) + "-a[", 33}, {strings.Repeat("-", 32) + "a[", 33},
		{strings.Repeat("(", 33) + ") x x", 32}, {strings.Repeat("(", 32) + "1 + (", 36},
	} {
		noExpr(t, x.src, x.at, api.ErrParseDeep)
		noExpr(t, ") "+x.src, 0, api.ErrParse)
		held(t, m, x.src)
	}
	for _, src := range []string{
		strings.Repeat("(", 32) + "1" + strings.Repeat(")", 32),
		// A - between two parts is none of the four, and what has ended is counted no more.
		strings.Repeat("1 - ", 100) + "1", strings.Repeat("-1 - ", 100) + "!x", strings.Repeat("(1) + a[0] * ", 100) + "-1",
		strings.Repeat("-", 32) + "1" + " - " + strings.Repeat("-", 32) + "a",
		strings.Repeat("(", 31) + "-1 - -1" + strings.Repeat(")", 31) + " - (-a[1])",
	} {
		if e, n, no := Expr(src); no != api.OK || n != len(src) || e.Op == "" {
			t.Errorf("P13.2: Expr of %q is %d %d", src, n, int(no))
		}
	}
}

// TestStmtExprDeep: each expression of a statement is counted alone; brackets of the statement itself are not.
func TestStmtExprDeep(t *testing.T) {
	deep := strings.Repeat("(", 32) + "1" + strings.Repeat(")", 32)
	src := fmt.Sprintf("main { x = input(%s, %s); a[%s] = %s; x = %s; if %s { assert %s; } while %s { assume %s; } }", deep, deep, deep, deep, deep, deep, deep, deep, deep)
	if p, _, no := Parse(src); no != api.OK || len(p.Main) != 5 {
		t.Error("P13.1: Parse of expressions that are just not too deep is", int(no))
	}
	for _, head := range []string{"x = ", "a[", "a[0] = ", "x = input(", "x = input(0, ", "if ", "while ", "assert ", "assume ", "x = 1; x = ", "x = " + deep + " + ", "a[" + deep + "] = ", "if b { x = "} {
		head = "main { " + head
		noProg(t, head+"("+deep+")", len(head)+32, api.ErrParseDeep)
		noProg(t, head+strings.Repeat("-", 32)+"a[", len(head)+33, api.ErrParseDeep)
	}
}

// held fails, if Expr refuses a text otherwise than the model does.
func held(t *testing.T, m model, src string) {
	t.Helper()
	want, wantE := m.answer("<expr>", src)
	e, at, no := Expr(src)
	if at != want || no != wantE || (no != api.OK && !reflect.DeepEqual(e, tree.Expr{})) || (no == api.OK && e.Op == "") {
		t.Fatalf("P13.2: Expr of %q is %s %d %d, not %d %d", src, shown(e), at, int(no), want, int(wantE))
	}
}

// heldProg fails, if Parse refuses a text otherwise than the model does; it tells the error.
func heldProg(t *testing.T, m model, src string) api.Errno {
	t.Helper()
	want, wantE := m.answer("<program>", src)
	p, at, no := Parse(src)
	if at != want || no != wantE || (no != api.OK && !reflect.DeepEqual(p, tree.Prog{})) {
		t.Fatalf("P13.1: Parse of %q is %s %d %d, not %d %d", src, shownProg(p), at, int(no), want, int(wantE))
	}
	return no
}

// words are tokens that may go on with something, somewhere.
func words() []string {
	return append(reserved(), "x", "a", "0", "00", "1", "12", "{", "}", "(", ")", "[", "]", ";", ":", ",", "=", "==", "!=", "<", "<=", ">", ">=", "+", "-", "*", "/", "!", "&&", "||")
}

// TestEachToken: in programs with all there is, each token is left out, put beside another one, and is another one.
func TestEachToken(t *testing.T) {
	m := newModel()
	for _, src := range []string{
		"enum m { a , b } main { }", "var x : int ; var y : m [ 3 ] ; main { }", "proc p { skip ; } main { call p ; }",
		"main { x = input ; y = input ( 0 , 1 ) ; }", "main { x = - a [ 1 ] ; a [ ! b ] = ( true ) ; }",
		"main { if x < 1 { skip ; } else { assert b ; } }", "main { while a && b || c { } assume x == 2 * y - 1 ; }",
	} {
		l := strings.Fields(src)
		for i := range l {
			heldProg(t, m, strings.Join(l[:i], " "))
			heldProg(t, m, strings.Join(append(append([]string{}, l[:i]...), l[i+1:]...), " "))
			for _, w := range words() {
				heldProg(t, m, strings.Join(append(append(append([]string{}, l[:i]...), w), l[i+1:]...), " "))
				heldProg(t, m, strings.Join(append(append(append([]string{}, l[:i]...), w), l[i:]...), " "))
			}
		}
		if heldProg(t, m, src) != api.OK {
			t.Errorf("P13.1: Parse of %q is none", src)
		}
	}
}

// TestEveryExpr: all texts of up to three tokens, and some longer ones that are mostly deep.
func TestEveryExpr(t *testing.T) {
	m := newModel()
	l := []string{"x", "1", "true", "if", "-", "!", "*", "<", "&&", "||", "(", ")", "[", "]", "=", ";"}
	for _, a := range l {
		held(t, m, a)
		for _, b := range l {
			held(t, m, a+" "+b)
			for _, c := range l {
				held(t, m, a+" "+b+" "+c)
			}
		}
	}
	deep := 0
	for seed := range 300 {
		d := newDice(seed)
		var s strings.Builder
		for range 20 + d(40) {
			s.WriteString(d.of("(", "(", "-", "!", "a[", "a[", "(x + ", "-x - ", "(y) * ", "a[0] == ("))
		}
		if seed%3 == 0 {
			s.WriteString(d.of("+", "x x", ") ) $", "x ) + ]", "1]))"))
		}
		held(t, m, s.String())
		if _, _, no := Expr(s.String()); no == api.ErrParseDeep {
			deep++
		}
	}
	if deep < 50 || deep > 250 {
		t.Error("of 300 texts so many were too deep:", deep)
	}
}

// TestWritten: each program is read as it was meant, with all its places, however it was written.
func TestWritten(t *testing.T) {
	for seed := range 4000 {
		w := writer{d: newDice(seed)}
		e := w.d.expr(6)
		w.expr(&e, 0)
		src := w.end()
		if len(src) > api.MaxSource {
			continue
		}
		if got, n, no := Expr(src); shown(got) != shown(e) || n != len(src) || no != api.OK {
			t.Fatalf("P13.2: Expr of\n%s\nis %s %d %d, not %s", src, shown(got), n, int(no), shown(e))
		}
	}
	read := 0
	for seed := range 4000 {
		w := writer{d: newDice(seed)}
		p := w.d.prog()
		w.prog(&p)
		src := w.end()
		if len(src) > api.MaxSource {
			continue
		}
		read++
		if got, n, no := Parse(src); shownProg(got) != shownProg(p) || !tree.Same(got, p) || n != len(src) || no != api.OK {
			t.Fatalf("P13.1: Parse of\n%s\nis %s %d %d, not %s", src, shownProg(got), n, int(no), shownProg(p))
		}
	}
	if read < 3000 {
		t.Error("of 4000 programs so few were read:", read)
	}
}

// TestSpoiled: programs of which some tokens are left out, others, or somewhere else.
func TestSpoiled(t *testing.T) {
	m := newModel()
	refused := 0
	for seed := range 600 {
		w := writer{d: newDice(seed)}
		p := w.d.prog()
		w.prog(&p)
		l, _, no := lexer.Lex(w.end())
		if no != api.OK || len(l) > 150 {
			continue
		}
		for range 1 + w.d(2) {
			i, j := w.d(len(l)), w.d(len(l))
			switch w.d(4) {
			case 0:
				l = append(l[:i:i], l[i+1:]...)
			case 1:
				l[i].Text = w.d.of(words()...)
			case 2:
				l[i], l[j] = l[j], l[i]
			case 3:
				l = append(l[:i:i], append([]lexer.Token{{Text: w.d.of(words()...)}}, l[i:]...)...)
			}
			if len(l) == 0 {
				break
			}
		}
		if heldProg(t, m, lexer.Join(l)) != api.OK {
			refused++
		}
	}
	if refused < 200 {
		t.Error("of 600 programs so few were refused:", refused)
	}
}

// TestPrinted: what was read is printed, and read, as the same, and printed as before.
func TestPrinted(t *testing.T) {
	printed := 0
	same := func(src string) {
		p, _, no := Parse(src)
		text := tree.Print(p)
		if no != api.OK || len(text) > api.MaxSource {
			return
		}
		printed++
		q, n, no := Parse(text)
		if no != api.OK || n != len(text) || !tree.Same(p, q) || !tree.Same(q, p) || tree.Print(q) != text {
			t.Fatalf("P13.3: of\n%s\nthere is printed\n%s, and this is read as %s %d %d", src, text, shownProg(q), n, int(no))
		}
	}
	for seed := range 4000 {
		w := writer{d: newDice(seed)}
		p := w.d.prog()
		w.prog(&p)
		same(w.end())
		e := w.d.expr(8)
		text := tree.Text(e)
		if len(text) > api.MaxSource {
			continue
		}
		if got, n, no := Expr(text); !tree.SameExpr(got, e) || n != len(text) || no != api.OK || tree.Text(got) != text {
			t.Fatalf("P13.3: Expr of %s is %s %d %d", text, tree.Text(got), n, int(no))
		}
	}
	if printed < 3000 {
		t.Error("of 4000 programs so few were printed:", printed)
	}
	printed = 0
	same("enum m{a}var x:m;var y:int[16];proc p{}proc q{skip;}main{}")
	same("main { if b { } else { } while b { } }")
	same("main { x = " + strings.Repeat("1 - ", 33) + "1; y = " + strings.Repeat("-(", 15) + "x" + strings.Repeat(")", 15) + "; }")
	same("main { " + strings.Repeat("if b { skip; } else { ", 15) + strings.Repeat("} ", 16))
	if printed != 4 {
		t.Error("P13.3: of 4 programs so many were printed:", printed)
	}
}

// TestOwn: what is told is the caller's own, and the same each time.
func TestOwn(t *testing.T) {
	src := "enum m { a, b } var x: int[3]; proc p { x = input(0, 1); } main { if a + b { x = a[1 + 2]; } else { skip; } }"
	want, _, _ := Parse(src)
	before := shownProg(want)
	p, _, _ := Parse(src)
	p.Enums[0].L[0], p.Enums[0].Name, p.Vars[0].Len, p.Procs[0].Name = "no", "no", 9, "no"
	p.Procs[0].Body[0].E[0].N = 9
	p.Main[0].E[0].L[0].Name = "no"
	p.Main[0].A[0].E[0].L[0].L[1].N = 9
	p.Main[0].B[0].Op = "no"
	again, _, _ := Parse(src)
	if shownProg(want) != before || shownProg(again) != before {
		t.Error("R6: Parse is", shownProg(want), "and then", shownProg(again))
	}
	// What is written behind a row changes no other one.
	e, _, _ := Expr("a + b + c")
	_ = append(e.L[0].L, tree.Expr{Op: "no"})
	_ = append(e.L[:1], tree.Expr{Op: "no"})
	if got := tree.Text(e.L[0]); got != "a + b" {
		t.Error("R6: a row is", got)
	}
}
