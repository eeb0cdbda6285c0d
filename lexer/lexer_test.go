package lexer

import (
	"math"
	"slices"
	"strconv"
	"strings"
	"testing"

	"helmsman/api"
)

func TestConstants(t *testing.T) {
	if Name != 0 || Number != 1 || Sign != 2 {
		t.Error("P11.1: kinds:", Name, Number, Sign)
	}
	if api.ErrLexSign != 110 || api.ErrLexLong != 111 || api.MaxSource != 4096 || api.Max != 1<<60 {
		t.Error("P11.1: errors and limits")
	}
}

// told fails, if Lex tells anything else of a text than these tokens.
func told(t *testing.T, src string, want ...Token) {
	t.Helper()
	l, n, e := Lex(src)
	if !slices.Equal(l, want) || n != len(src) || e != api.OK {
		t.Errorf("P11.1: Lex of %q is %v %d %d, not %v", src, l, n, int(e), want)
	}
}

// refused fails, if Lex tells anything else of a text than this place and error.
func refused(t *testing.T, src string, at int, want api.Errno) {
	t.Helper()
	l, n, e := Lex(src)
	if len(l) != 0 || n != at || e != want {
		t.Errorf("P11.1: Lex of %.60q is %v %d %d, not %d %d", src, l, n, int(e), at, int(want))
	}
}

func name(text string, at int) Token          { return Token{Name, text, 0, at} }
func sign(text string, at int) Token          { return Token{Sign, text, 0, at} }
func number(text string, n int, at int) Token { return Token{Number, text, n, at} }

// TestChapter goes through the chapter's example.
func TestChapter(t *testing.T) {
	told(t, "x<=12; # y", name("x", 0), sign("<=", 1), number("12", 12, 3), sign(";", 5))
}

func TestLexTold(t *testing.T) {
	told(t, "")
	told(t, " \t\n \n")
	told(t, "#")
	told(t, "# x = 1;")
	told(t, "##\n\n#\n")
	told(t, "a", name("a", 0))
	told(t, "aZ_09_", name("aZ_09_", 0))
	told(t, "  a\tb\nc  ", name("a", 2), name("b", 4), name("c", 6))
	told(t, "1a a1", number("1", 1, 0), name("a", 1), name("a1", 3))
	told(t, "x#y\nz", name("x", 0), name("z", 4))
	told(t, "a #b\t+ $ é\xff\r#\n#\nc", name("a", 0), name("c", 17))
	// The end of a line that stands behind the beginning of a rune ends a remark, too.
	told(t, "#\xe2\x80\na", name("a", 4))
	told(t, "x=-5/y", name("x", 0), sign("=", 1), sign("-", 2), number("5", 5, 3), sign("/", 4), name("y", 5))
	told(t, "a[10]", name("a", 0), sign("[", 1), number("10", 10, 2), sign("]", 4))
	told(t, "while true{}", name("while", 0), name("true", 6), sign("{", 10), sign("}", 11))
}

// TestLexSigns: all of them, alone, and each time the longest one.
func TestLexSigns(t *testing.T) {
	if len(signs()) != 23 {
		t.Fatal("P11.1: there are", len(signs()), "signs")
	}
	for _, s := range signs() {
		told(t, s, sign(s, 0))
		told(t, s+" "+s, sign(s, 0), sign(s, len(s)+1))
		told(t, "a"+s+"1", name("a", 0), sign(s, 1), number("1", 1, 1+len(s)))
	}
	told(t, "<=<", sign("<=", 0), sign("<", 2))
	told(t, "<<=", sign("<", 0), sign("<=", 1))
	told(t, "===", sign("==", 0), sign("=", 2))
	told(t, "====", sign("==", 0), sign("==", 2))
	told(t, "!==", sign("!=", 0), sign("=", 2))
	told(t, "!!=", sign("!", 0), sign("!=", 1))
	told(t, "=>", sign("=", 0), sign(">", 1))
	told(t, "=<", sign("=", 0), sign("<", 1))
	told(t, "<>", sign("<", 0), sign(">", 1))
	told(t, "= =", sign("=", 0), sign("=", 2))
	told(t, "+=", sign("+", 0), sign("=", 1))
	told(t, "--", sign("-", 0), sign("-", 1))
	told(t, "/*", sign("/", 0), sign("*", 1))
	told(t, ":=", sign(":", 0), sign("=", 1))
	told(t, "&&||", sign("&&", 0), sign("||", 2))
	told(t, "&&!", sign("&&", 0), sign("!", 2))
}

func TestLexSignErrors(t *testing.T) {
	for _, src := range []string{"$", "_", "_a", "&", "|", "&|", "& &", "| |", "&=", "\r", "\v", "\f", "\x00", "\x7f", "\x80", "\xff", "é", "\u00a0", "\ufeff", ".", "%", "^", "~", "?", "@", "\\", "\"", "'", "`"} {
		refused(t, src, 0, api.ErrLexSign)
		refused(t, " "+src, 1, api.ErrLexSign)
		refused(t, "x+1;\n#\n"+src+" $", 7, api.ErrLexSign)
		refused(t, "10"+src[:1]+"\n", 2, api.ErrLexSign)
	}
	refused(t, "&&&", 2, api.ErrLexSign)
	refused(t, "|||", 2, api.ErrLexSign)
	refused(t, "a\r\nb", 1, api.ErrLexSign)
	refused(t, "1_000", 1, api.ErrLexSign)
	refused(t, "1.5", 1, api.ErrLexSign)
	// Letters and digits are those of ASCII alone: of no other rune, nor one of which a byte, or the last one cut off, is one.
	for _, c := range []string{"é", "ſ", "\u212a", "٣", "Ĵ", "\u0130", "š", "ş", "Ľ", "\u0126", "\u012f", "\xff", "\xc1\xa1", "\xe2\x80"} {
		refused(t, c, 0, api.ErrLexSign)
		refused(t, "a"+c, 1, api.ErrLexSign)
		refused(t, "1"+c+"1", 1, api.ErrLexSign)
		refused(t, "<"+c, 1, api.ErrLexSign)
		refused(t, "+"+c, 1, api.ErrLexSign)
		refused(t, "&"+c, 0, api.ErrLexSign)
	}
}

func TestLexNames(t *testing.T) {
	for n := 1; n <= 40; n++ {
		for _, x := range []string{strings.Repeat("a", n), "Z" + strings.Repeat("9", n-1), "q" + strings.Repeat("_", n-1)} {
			if n <= 16 {
				told(t, "\n"+x+";", name(x, 1), sign(";", n+1))
				continue
			}
			refused(t, x, 0, api.ErrLexLong)
			refused(t, "a + "+x+" $", 4, api.ErrLexLong)
		}
	}
	told(t, "abcdefghijklmnop qrstuvwxyz0123_9", name("abcdefghijklmnop", 0), name("qrstuvwxyz0123_9", 17))
	told(t, "ABCDEFGHIJKLM NOPQRSTUVWXYZ", name("ABCDEFGHIJKLM", 0), name("NOPQRSTUVWXYZ", 14))
}

func TestLexNumbers(t *testing.T) {
	for _, x := range []struct {
		text string
		n    int
	}{
		{"0", 0}, {"7", 7}, {"10", 10}, {"00", 0}, {"007", 7}, {"1234567890", 1234567890},
		{"4294967296", 1 << 32},
		{"1152921504606846975", api.Max - 1},
		{"1152921504606846976", api.Max},
		{"999999999999999999", 999999999999999999},
		{"0001152921504606846976", api.Max},
		{strings.Repeat("0", 21) + "1152921504606846976", api.Max},
		{strings.Repeat("0", 40), 0},
		{strings.Repeat("0", 39) + "9", 9},
	} {
		told(t, x.text, number(x.text, x.n, 0))
		told(t, "-"+x.text+"x", sign("-", 0), number(x.text, x.n, 1), name("x", 1+len(x.text)))
	}
	for _, text := range []string{
		"1152921504606846977", "1152921504606846980", "1152921504606847000", "2000000000000000000", "9999999999999999999",
		// These would wrap round an int to small numbers.
		"9223372036854775807", "9223372036854775808", "18446744073709551615", "18446744073709551616", "18446744073709551617", "36893488147419103232", "340282366920938463463374607431768211456",
		"0001152921504606846977",
		strings.Repeat("0", 21) + "1152921504606846977",
		strings.Repeat("0", 20) + "18446744073709551617",
		"1" + strings.Repeat("0", 39), strings.Repeat("9", 40),
		strings.Repeat("0", 41), strings.Repeat("0", 40) + "1", "1" + strings.Repeat("0", 40), strings.Repeat("0", 1000), strings.Repeat("9", 4096),
	} {
		refused(t, text, 0, api.ErrLexLong)
		if len(text) < 4000 {
			refused(t, "a\n- "+text+"x $", 4, api.ErrLexLong)
		}
	}
}

// TestLexWhole: a text of MaxSource bytes may be, one of more may not, whatever else is wrong with it.
func TestLexWhole(t *testing.T) {
	for _, fill := range []string{" ", "\n", "#", "+", "a "} {
		src := strings.Repeat(fill, api.MaxSource/len(fill))
		l, n, e := Lex(src)
		if n != api.MaxSource || e != api.OK || len(l) != strings.Count(src, "+")+strings.Count(src, "a") {
			t.Error("P11.1: Lex of", api.MaxSource, "bytes is", len(l), n, int(e))
		}
		agree(t, src)
		agree(t, src[:api.MaxSource-1]+"$")
		refused(t, src+" ", 0, api.ErrLexLong)
		refused(t, src+"$", 0, api.ErrLexLong)
		refused(t, " $"+src, 0, api.ErrLexLong)
		// ErrLexLong comes ahead of ErrLexSign, even where both are of place 0.
		refused(t, "$"+src, 0, api.ErrLexLong)
		refused(t, src+src+src, 0, api.ErrLexLong)
	}
	refused(t, strings.Repeat("\n", api.MaxSource-1)+"$", api.MaxSource-1, api.ErrLexSign)
}

// TestLexFirst: of several errors that one is told which stands farthest left.
func TestLexFirst(t *testing.T) {
	long, great := strings.Repeat("a", 17), strings.Repeat("9", 20)
	refused(t, "$ "+long+" "+great, 0, api.ErrLexSign)
	refused(t, long+" $ "+great, 0, api.ErrLexLong)
	refused(t, great+" $ "+long, 0, api.ErrLexLong)
	refused(t, "x "+great+long+"$", 2, api.ErrLexLong)
	refused(t, "x "+long+great+"$", 2, api.ErrLexLong)
	refused(t, "x # $ "+long+"\n&"+great, 24, api.ErrLexSign)
	refused(t, "a"+strings.Repeat("1", 15)+"$"+long, 16, api.ErrLexSign)
}

// TestLexEveryByte: each byte, and each two, alone, and in the midst of others.
func TestLexEveryByte(t *testing.T) {
	for a := range 256 {
		one := string([]byte{byte(a)})
		agree(t, one)
		for _, x := range pieces() {
			agree(t, x+one)
			agree(t, one+x)
			agree(t, x+one+x)
		}
		for b := range 256 {
			agree(t, string([]byte{byte(a), byte(b)}))
		}
	}
}

// TestLexEveryThree: each three pieces, one right behind the other.
func TestLexEveryThree(t *testing.T) {
	l := pieces()
	for _, a := range l {
		for _, b := range l {
			for _, c := range l {
				agree(t, a+b+c)
			}
		}
	}
}

// TestLexMany: greater texts, of which most are right, and some are not.
func TestLexMany(t *testing.T) {
	right := append(signs(), "a", "Z", "x1", "while", "0", "7", "1152921504606846976", " ", " ", " ", "\t", "\n", "\n", "# no\n")
	for seed := range 2000 {
		d := dice(seed)
		var s strings.Builder
		for range d(200) {
			s.WriteString(right[d(len(right))])
		}
		agree(t, s.String())
		s.WriteString(pieces()[d(len(pieces()))])
		s.WriteString(right[d(len(right))])
		agree(t, s.String())
	}
}

// TestLexOwn: what Lex tells is the caller's own, and the same each time.
func TestLexOwn(t *testing.T) {
	src := "x = 1 + y;"
	l, _, _ := Lex(src)
	again, _, _ := Lex(src)
	for i := range l {
		l[i] = Token{Kind: 9, Text: "no", N: 9, At: 9}
	}
	third, _, _ := Lex(src)
	if want, _, _ := modelLex(src); !slices.Equal(again, want) || !slices.Equal(third, want) {
		t.Error("P11.1: Lex is", again, "and then", third)
	}
}

func TestRight(t *testing.T) {
	for _, x := range []struct {
		t    Token
		want bool
	}{
		{name("a", 0), true},
		{name("while", 0), true},
		{name("abcdefghijklmnop", 0), true},
		{name("abcdefghijklmnopq", 0), false},
		{number("07", 7, 0), true},
		{number("0", 0, 0), true},
		{number("1152921504606846976", api.Max, 0), true},
		{number("1152921504606846977", api.Max+1, 0), false},
		{number(strings.Repeat("0", 40), 0, 0), true},
		{number(strings.Repeat("0", 41), 0, 0), false},
		{sign("<=", 0), true},
		{sign("&&", 0), true},
		// At is of no account.
		{name("a", 99), true},
		{number("7", 7, -1), true},
		{sign("{", math.MinInt), true},
		{sign("||", math.MaxInt), true},
		// A Kind, or an N, of another token, or of none.
		{Token{Number, "a", 0, 0}, false},
		{Token{Sign, "a", 0, 0}, false},
		{Token{Name, "a", 1, 0}, false},
		{Token{Name, "7", 7, 0}, false},
		{Token{Sign, "0", 0, 0}, false},
		{Token{Number, "7", 0, 0}, false},
		{Token{Number, "7", 8, 0}, false},
		{Token{Number, "7", -7, 0}, false},
		{Token{Number, "+", 0, 0}, false},
		{Token{Name, "+", 0, 0}, false},
		{Token{Sign, "+", 1, 0}, false},
		{Token{-1, "a", 0, 0}, false},
		{Token{3, "a", 0, 0}, false},
		{Token{math.MaxInt, "+", 0, 0}, false},
		// Texts of no token, of more than one, and with something that says nothing beside one.
		{Token{}, false},
		{Token{Kind: Sign}, false},
		{name("a b", 0), false},
		{name("a+", 0), false},
		{sign("===", 0), false},
		{sign("=<", 0), false},
		{sign("&", 0), false},
		{sign("$", 0), false},
		{name("_", 0), false},
		{name("é", 0), false},
		{name("a\xff", 0), false},
		{name(" a", 0), false},
		{name(" a", 1), false},
		{name("a ", 0), false},
		{name("a\n", 0), false},
		{name("#\na", 2), false},
		{name("a#", 0), false},
		{name(" ", 0), false},
		{sign("#", 0), false},
		{name("a"+strings.Repeat(" ", 5000), 0), false},
		{name(strings.Repeat(" ", 5000)+"a", 0), false},
		{name(strings.Repeat("a", 5000), 0), false},
	} {
		if is := Right(x.t); is != x.want || is != modelRight(x.t) {
			t.Errorf("P11.2: Right of %d %.60q %d %d is %v", x.t.Kind, x.t.Text, x.t.N, x.t.At, is)
		}
	}
}

// TestRightEvery holds Right against the model of all kinds, some Ns and places, and each text of one or two pieces.
func TestRightEvery(t *testing.T) {
	for _, a := range pieces() {
		for _, b := range append(pieces(), "") {
			for kind := -1; kind <= 3; kind++ {
				for _, n := range []int{0, 1, 7, -7, api.Max, math.MinInt} {
					for _, at := range []int{0, 1, -5} {
						x := Token{kind, a + b, n, at}
						if is := Right(x); is != modelRight(x) {
							t.Fatalf("P11.2: Right of %d %q %d %d is %v", x.Kind, x.Text, x.N, x.At, is)
						}
					}
				}
			}
		}
	}
}

func TestJoin(t *testing.T) {
	for _, x := range []struct {
		l    []Token
		want string
	}{
		{nil, ""},
		{[]Token{}, ""},
		{[]Token{{}}, ""},
		{[]Token{{}, {}}, " "},
		{[]Token{name("a", 7)}, "a"},
		{[]Token{name("x", 0), sign("<=", 1), number("012", 12, 3), sign(";", 5)}, "x <= 012 ;"},
		// Wrong tokens are joined, too: nothing but their Text is of account.
		{[]Token{{9, "a b", 3, -1}, {}, {Number, " \xff\n", 5, 0}}, "a b   \xff\n"},
	} {
		before := slices.Clone(x.l)
		if s := Join(x.l); s != x.want || !slices.Equal(x.l, before) {
			t.Errorf("P11.2: Join of %v is %q", x.l, s)
		}
	}
}

func TestLine(t *testing.T) {
	for _, x := range []struct {
		src              string
		at, line, column int
	}{
		{"", 0, 1, 1}, {"", 5, 1, 1}, {"", -5, 1, 1},
		{"abc", 0, 1, 1}, {"abc", 2, 1, 3}, {"abc", 3, 1, 4}, {"abc", 4, 1, 4},
		// The end of a line belongs to the line that it ends.
		{"a\nb\n", 1, 1, 2}, {"a\nb\n", 2, 2, 1}, {"a\nb\n", 3, 2, 2}, {"a\nb\n", 4, 3, 1}, {"a\nb\n", 9, 3, 1},
		{"\n\n\nx", 0, 1, 1}, {"\n\n\nx", 1, 2, 1}, {"\n\n\nx", 3, 4, 1}, {"\n\n\nx", 4, 4, 2},
		{"a\nb\n", math.MinInt, 1, 1}, {"a\nb\n", math.MaxInt, 3, 1}, {"a\nb\n", -1, 1, 1}, {"a\nb\n", 1 << 32, 3, 1},
		// Bytes are counted; nothing else than byte 10 ends a line.
		{"é\xff\ré", 4, 1, 5}, {"\r\r\v\f\u2028x", 7, 1, 8}, {"a\tb", 2, 1, 3}, {"#\n#\n", 3, 2, 2},
	} {
		if line, column := Line(x.src, x.at); line != x.line || column != x.column {
			t.Errorf("P11.3: Line of %q, %d is %d, %d, not %d, %d", x.src, x.at, line, column, x.line, x.column)
		}
	}
}

// TestLineEvery holds Line against the model at all places of some texts, and beside them; one is too long for Lex.
func TestLineEvery(t *testing.T) {
	texts := []string{"", "\n", "x", "a\n\nbc\n", strings.Repeat("é\n", 3000)}
	for seed := range 200 {
		d := dice(seed)
		src := make([]byte, d(40))
		for i := range src {
			src[i] = "ab \n\n\r\xff"[d(7)]
		}
		texts = append(texts, string(src))
	}
	for _, src := range texts {
		for at := -3; at <= len(src)+3; at++ {
			line, column := Line(src, at)
			if wantLine, wantColumn := modelLine(src, at); line != wantLine || column != wantColumn {
				t.Fatalf("P11.3: Line of %.60q, %d is %d, %d, not %d, %d", src, at, line, column, wantLine, wantColumn)
			}
		}
	}
}

// rightTokens are some of all kinds, the longest that may be among them; each was read somewhere else.
func rightTokens() []Token {
	var l []Token
	for i, s := range signs() {
		l = append(l, sign(s, i*5-3))
	}
	for _, s := range []string{"a", "Z", "x1", "if", "e10", "a_", "A__9", "abcdefghijklmnop"} {
		l = append(l, name(s, 77))
	}
	for _, n := range []int{0, 7, 10, 1 << 32, api.Max} {
		l = append(l, number(strconv.Itoa(n), n, 77), number("000"+strconv.Itoa(n), n, 0))
	}
	return append(l, number(strings.Repeat("0", 40), 0, 3))
}

// joined fails, if what right tokens are joined to is not lexed as them, each at its place.
func joined(t *testing.T, l []Token) {
	t.Helper()
	want, at := slices.Clone(l), 0
	for i := range want {
		if !Right(want[i]) {
			t.Fatal("P11.2: Right is false:", want[i])
		}
		want[i].At = at
		at += len(want[i].Text) + 1
	}
	src := Join(l)
	got, n, e := Lex(src)
	if !slices.Equal(got, want) || n != len(src) || e != api.OK {
		t.Fatalf("P11.4: Lex of %.200q is %v %d %d, not %v", src, got, n, int(e), want)
	}
}

func TestJoined(t *testing.T) {
	l := rightTokens()
	joined(t, nil)
	joined(t, l)
	for _, a := range l {
		joined(t, []Token{a})
		for _, b := range l {
			joined(t, []Token{a, b})
			for _, c := range l {
				joined(t, []Token{a, b, c})
			}
		}
	}
	for seed := range 500 {
		d := dice(seed)
		some := make([]Token, d(100))
		for i := range some {
			some[i] = l[d(len(l))]
		}
		joined(t, some)
	}
}

// TestJoinedWhole: up to MaxSource bytes, and no more.
func TestJoinedWhole(t *testing.T) {
	l := slices.Repeat([]Token{name("a", 0)}, api.MaxSource/2)
	joined(t, l)
	l[5] = sign("==", 0)
	joined(t, l)
	l[7] = sign("||", 0)
	refused(t, Join(l), 0, api.ErrLexLong)
}
