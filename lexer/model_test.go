package lexer

import (
	"math/big"
	"regexp"
	"slices"
	"strings"
	"testing"

	"helmsman/api"
)

// The chapter's words, as patterns of what a text begins with.
var (
	silentPattern = regexp.MustCompile(`^([ \t\n]|#[^\n]*)`)
	namePattern   = regexp.MustCompile(`^[a-zA-Z][a-zA-Z0-9_]*`)
	numberPattern = regexp.MustCompile(`^[0-9]+`)
)

// signs are those of the chapter, in its order.
func signs() []string {
	return strings.Fields("{ } ( ) [ ] ; : , = == != < <= > >= + - * / ! && ||")
}

// longestSign is the one of the chapter's signs that a text begins with.
func longestSign(text string) string {
	long := ""
	for _, s := range signs() {
		if strings.HasPrefix(text, s) && len(s) > len(long) {
			long = s
		}
	}
	return long
}

// modelLex is Lex by the chapter's words, with numbers that have no end.
func modelLex(src string) ([]Token, int, api.Errno) {
	if len(src) > 4096 {
		return nil, 0, api.ErrLexLong
	}
	var l []Token
	at := 0
	for at < len(src) {
		rest := src[at:]
		if s := silentPattern.FindString(rest); s != "" {
			at += len(s)
			continue
		}
		t := Token{At: at}
		if name := namePattern.FindString(rest); name != "" {
			if len(name) > 16 {
				return nil, at, api.ErrLexLong
			}
			t.Kind, t.Text = Name, name
		} else if digits := numberPattern.FindString(rest); digits != "" {
			n, is := new(big.Int).SetString(digits, 10)
			if !is || len(digits) > 40 || n.Cmp(big.NewInt(1<<60)) > 0 {
				return nil, at, api.ErrLexLong
			}
			t.Kind, t.Text, t.N = Number, digits, int(n.Int64())
		} else if s := longestSign(rest); s != "" {
			t.Kind, t.Text = Sign, s
		} else {
			return nil, at, api.ErrLexSign
		}
		l = append(l, t)
		at += len(t.Text)
	}
	return l, len(src), api.OK
}

// agree fails, if Lex tells anything else of a text than the model.
func agree(t *testing.T, src string) {
	t.Helper()
	l, at, e := Lex(src)
	if wantL, wantAt, wantE := modelLex(src); !slices.Equal(l, wantL) || at != wantAt || e != wantE {
		t.Fatalf("P11.1: Lex of %q is %v %d %d, not %v %d %d", src, l, at, int(e), wantL, wantAt, int(wantE))
	}
}

// modelRight is Right by the chapter's words.
func modelRight(x Token) bool {
	l, _, e := modelLex(x.Text)
	return e == api.OK && len(l) == 1 && l[0].Kind == x.Kind && l[0].Text == x.Text && l[0].N == x.N
}

// modelLine goes to the place byte by byte.
func modelLine(src string, at int) (line, column int) {
	line, column = 1, 1
	for i := 0; i < at && i < len(src); i++ {
		column++
		if src[i] == '\n' {
			line, column = line+1, 1
		}
	}
	return line, column
}

// dice tells numbers below what it is asked for, the same ones for the same seed.
func dice(seed int) func(below int) int {
	state := uint64(seed)*2654435761 + 1
	return func(below int) int {
		state = state*6364136223846793005 + 1442695040888963407
		return int(state >> 33 % uint64(below))
	}
}

// pieces are what texts are put together of: tokens, what says nothing, and what is none of all this.
func pieces() []string {
	l := append(signs(),
		"a", "Z", "x1", "_", "while", "a_b_9_", "abcdefghijklmnop", "abcdefghijklmnopq", "0", "7", "007", "1152921504606846976",
		"1152921504606846977", strings.Repeat("0", 40), strings.Repeat("0", 41), "18446744073709551617",
		" ", "\t", "\n", "#", "# no\n", "#\xff\n", "&", "|", "$", "\r", "\x00", "\x7f", "\x80", "\xff", "é", "\u2028")
	return l
}
