package bound

import (
	"math"
	"math/big"
	"strconv"
	"strings"
	"testing"

	"helmsman/api"
)

// samples are numbers around every edge that the chapter names, and ordinary ones.
func samples() []int {
	l := []int{math.MinInt, math.MinInt + 1, math.MaxInt, math.MaxInt - 1}
	for _, c := range []int{0, 7, 1 << 29, 1 << 30, 1 << 31, 1 << 32, 1 << 59, api.Max, Edge, None} {
		for d := -2; d <= 2; d++ {
			l = append(l, c+d, -c+d)
		}
	}
	return l
}

func whole(n *big.Int) bool {
	return n.CmpAbs(big.NewInt(api.Max)) <= 0
}

// exact is what P1.1 asks of Calc, reckoned by numbers without an end.
func exact(op, a, b int) (int, api.Errno) {
	x, y := big.NewInt(int64(a)), big.NewInt(int64(b))
	if op < Plus || op > Divide || !whole(x) || !whole(y) {
		return 0, api.ErrArg
	}
	n := new(big.Int)
	switch op {
	case Plus:
		n.Add(x, y)
	case Minus:
		n.Sub(x, y)
	case Times:
		n.Mul(x, y)
	case Divide:
		if b == 0 {
			return 0, api.ErrZero
		}
		n.Quo(x, y)
	}
	if !whole(n) {
		return 0, api.ErrOver
	}
	return int(n.Int64()), api.OK
}

func TestConstants(t *testing.T) {
	if None != 4611686018427387904 || Edge != 2305843009213693952 {
		t.Error("P1.2: None, Edge:", None, Edge)
	}
	if Plus != 0 || Minus != 1 || Times != 2 || Divide != 3 {
		t.Error("P1.1: ops:", Plus, Minus, Times, Divide)
	}
	if api.OK != 0 || api.ErrArg != 1 || api.ErrOver != 10 || api.ErrZero != 11 {
		t.Error("P1.1: errors")
	}
}

func TestIn(t *testing.T) {
	for _, n := range []int{0, 1, -1, api.Max - 1, api.Max, 1 - api.Max, -api.Max} {
		if !In(n) {
			t.Error("P1.1: In is false:", n)
		}
	}
	for _, n := range []int{api.Max + 1, -api.Max - 1, Edge, -Edge, None, -None, math.MaxInt, math.MinInt} {
		if In(n) {
			t.Error("P1.1: In is true:", n)
		}
	}
}

func TestCalcTold(t *testing.T) {
	for _, x := range []struct {
		op, a, b, n int
		e           api.Errno
	}{
		{Plus, 2, 3, 5, api.OK},
		{Plus, 2, -3, -1, api.OK},
		{Plus, api.Max, -api.Max, 0, api.OK},
		{Plus, api.Max - 1, 1, api.Max, api.OK},
		{Plus, 1 - api.Max, -1, -api.Max, api.OK},
		{Plus, api.Max, 1, 0, api.ErrOver},
		{Plus, -api.Max, -1, 0, api.ErrOver},
		{Plus, api.Max, api.Max, 0, api.ErrOver},
		{Minus, 2, 3, -1, api.OK},
		{Minus, -2, -3, 1, api.OK},
		{Minus, 0, -api.Max, api.Max, api.OK},
		{Minus, 0, api.Max, -api.Max, api.OK},
		{Minus, 1, -api.Max, 0, api.ErrOver},
		{Minus, -1, api.Max, 0, api.ErrOver},
		{Minus, -api.Max, api.Max, 0, api.ErrOver},
		{Times, -4, 6, -24, api.OK},
		{Times, -4, -6, 24, api.OK},
		{Times, 0, -api.Max, 0, api.OK},
		{Times, api.Max, 0, 0, api.OK},
		{Times, api.Max, -1, -api.Max, api.OK},
		{Times, -1, -api.Max, api.Max, api.OK},
		{Times, api.Max / 2, 2, api.Max, api.OK},
		{Times, api.Max/2 + 1, 2, 0, api.ErrOver},
		{Times, api.Max, 2, 0, api.ErrOver},
		{Times, 2, -api.Max, 0, api.ErrOver},
		// These products wrap round an int to 0, and to 2 to the power 58.
		{Times, 1 << 32, 1 << 32, 0, api.ErrOver},
		{Times, 1<<32 + 1<<26, 1 << 32, 0, api.ErrOver},
		{Divide, 7, 2, 3, api.OK},
		{Divide, -7, 2, -3, api.OK},
		{Divide, 7, -2, -3, api.OK},
		{Divide, -7, -2, 3, api.OK},
		{Divide, 1, api.Max, 0, api.OK},
		{Divide, -api.Max, -1, api.Max, api.OK},
		{Divide, api.Max, -1, -api.Max, api.OK},
		{Divide, 0, 5, 0, api.OK},
	} {
		if n, e := Calc(x.op, x.a, x.b); n != x.n || e != x.e {
			t.Error("P1.1: Calc", x.op, x.a, x.b, "is", n, e, "not", x.n, x.e)
		}
	}
}

func TestCalcErrors(t *testing.T) {
	for _, x := range []struct {
		op, a, b int
		e        api.Errno
	}{
		{-1, 1, 1, api.ErrArg},
		{4, 1, 1, api.ErrArg},
		{math.MinInt, 1, 1, api.ErrArg},
		{math.MaxInt, 1, 1, api.ErrArg},
		{4, 1, 0, api.ErrArg},
		{4, api.Max, api.Max, api.ErrArg},
		{Plus, api.Max + 1, -1, api.ErrArg},
		{Plus, -1, api.Max + 1, api.ErrArg},
		{Minus, 0, -api.Max - 1, api.ErrArg},
		{Minus, 0, math.MinInt, api.ErrArg},
		{Times, 0, api.Max + 1, api.ErrArg},
		{Times, math.MinInt, -1, api.ErrArg},
		{Divide, math.MinInt, -1, api.ErrArg},
		// ErrArg is named first, ahead of ErrZero.
		{Divide, api.Max + 1, 0, api.ErrArg},
		{Divide, -api.Max - 1, 0, api.ErrArg},
		{Divide, 0, 0, api.ErrZero},
		{Divide, api.Max, 0, api.ErrZero},
		{Divide, -api.Max, 0, api.ErrZero},
	} {
		if n, e := Calc(x.op, x.a, x.b); n != 0 || e != x.e {
			t.Error("P1.1: Calc", x.op, x.a, x.b, "is", n, e, "not 0", x.e)
		}
	}
}

func TestCalcExact(t *testing.T) {
	for op := Plus - 1; op <= Divide+1; op++ {
		for _, a := range samples() {
			for _, b := range samples() {
				n, e := Calc(op, a, b)
				if wantN, wantE := exact(op, a, b); n != wantN || e != wantE {
					t.Fatal("P1.1: Calc", op, a, b, "is", n, e, "not", wantN, wantE)
				}
			}
		}
	}
}

func TestRight(t *testing.T) {
	for _, b := range []int{0, 1, -1, api.Max + 1, Edge - 1, Edge, 1 - Edge, -Edge, None} {
		if !Right(b) {
			t.Error("P1.2: Right is false:", b)
		}
	}
	for _, b := range []int{Edge + 1, -Edge - 1, None - 1, None + 1, -None, math.MaxInt, math.MinInt} {
		if Right(b) {
			t.Error("P1.2: Right is true:", b)
		}
	}
}

func TestNear(t *testing.T) {
	for _, x := range [][2]int{
		{0, 0}, {-12, -12}, {api.Max + 1, api.Max + 1},
		{Edge, Edge}, {Edge + 1, None}, {None - 1, None}, {None, None}, {None + 1, None}, {math.MaxInt, None},
		{-Edge, -Edge}, {-Edge - 1, -Edge}, {-None, -Edge}, {math.MinInt, -Edge},
	} {
		if n := Near(x[0]); n != x[1] {
			t.Error("P1.2: Near", x[0], "is", n, "not", x[1])
		}
	}
}

func TestNearIsLeast(t *testing.T) {
	for _, b := range samples() {
		n := Near(b)
		if !Right(n) || Near(n) != n || Right(b) != (n == b) {
			t.Error("P1.2: Near", b, "is", n)
		}
		// None stands for no bound at all, so that it is not below any number.
		if n != None && n < b {
			t.Error("P1.2: Near is below:", b, n)
		}
		for _, c := range samples() {
			if Right(c) && c >= b && n > c {
				t.Error("P1.2: Near is not the least:", b, n, c)
			}
		}
	}
}

func TestAdd(t *testing.T) {
	for _, x := range [][3]int{
		{2, 3, 5}, {2, -3, -1}, {api.Max, api.Max, Edge},
		{Edge, 0, Edge}, {Edge, -1, Edge - 1}, {Edge, -Edge, 0},
		{Edge, 1, None}, {Edge, Edge, None},
		{-Edge, -1, -Edge}, {-Edge, -Edge, -Edge}, {-Edge, 1, 1 - Edge},
		{None, 0, None}, {None, -Edge, None}, {None, None, None}, {None, math.MinInt, None},
		{Edge + 1, -Edge, None}, {math.MaxInt, -5, None}, {math.MaxInt, math.MaxInt, None},
		{math.MinInt, 5, 5 - Edge}, {math.MinInt, math.MinInt, -Edge}, {-Edge - 7, Edge, 0},
	} {
		if n := Add(x[0], x[1]); n != x[2] {
			t.Error("P1.2: Add", x[0], x[1], "is", n, "not", x[2])
		}
	}
}

func TestLeq(t *testing.T) {
	for _, x := range []struct {
		a, b int
		want bool
	}{
		{1, 2, true}, {2, 2, true}, {3, 2, false}, {-3, 2, true},
		{Edge, None, true}, {None, Edge, false}, {None, None, true},
		{None, None + 1, true}, {None + 1, None, true}, {math.MaxInt, None, true}, {Edge + 2, Edge + 1, true},
		{Edge + 1, Edge, false}, {Edge, Edge + 1, true},
		{-Edge, -Edge - 1, true}, {-Edge, math.MinInt, true}, {math.MinInt, -Edge, true}, {1 - Edge, math.MinInt, false},
	} {
		if got := Leq(x.a, x.b); got != x.want {
			t.Error("P1.2: Leq", x.a, x.b, "is", got)
		}
	}
}

func TestText(t *testing.T) {
	for _, x := range []struct {
		b int
		s string
	}{
		{0, "0"}, {7, "7"}, {-12, "-12"}, {100, "100"},
		{api.Max, "1152921504606846976"},
		{Edge, "2305843009213693952"}, {Edge + 1, "none"}, {None, "none"}, {math.MaxInt, "none"},
		{-Edge, "-2305843009213693952"}, {-Edge - 1, "-2305843009213693952"}, {math.MinInt, "-2305843009213693952"},
	} {
		if s := Text(x.b); s != x.s {
			t.Error("P1.3: Text", x.b, "is", s, "not", x.s)
		}
	}
}

func TestParse(t *testing.T) {
	for _, b := range samples() {
		if n, e := Parse(Text(b)); n != Near(b) || e != api.OK {
			t.Error("P1.3: Parse of Text of", b, "is", n, e)
		}
		if n, e := Parse(strconv.Itoa(b)); (!Right(b) || b == None) && (n != 0 || e != api.ErrArg) {
			t.Error("P1.3: Parse of no bound's digits", b, "is", n, e)
		}
	}
}

func TestParseRefuses(t *testing.T) {
	for _, s := range []string{
		"", " ", "-", "+", "--1", "-0", "+0", "+1", "00", "01", "-01", "1 ", " 1", "1\n", "\x001",
		"1_000", "0x10", "1e3", "1.0", "x", "12x", "\xff", "\u0661",
		"None", "NONE", "none ", " none", "-none", "non", "nonee",
		"2305843009213693953", "-2305843009213693953", "4611686018427387904", "9223372036854775807", "-9223372036854775808",
		"9223372036854775808", "-9223372036854775809", "18446744073709551616",
		strings.Repeat("9", 1000), "-" + strings.Repeat("9", 1000), strings.Repeat("0", 1000) + "1",
	} {
		if n, e := Parse(s); n != 0 || e != api.ErrArg {
			t.Errorf("P1.3: Parse(%q) is %d, %d", s, n, e)
		}
	}
}

func TestAddFollows(t *testing.T) {
	for _, a := range samples() {
		for _, b := range samples() {
			sum := Add(a, b)
			if sum != Add(b, a) {
				t.Fatal("P1.4: Add hangs on the order:", a, b)
			}
			if !Right(sum) {
				t.Fatal("P1.4: Add is no bound:", a, b, sum)
			}
			checkNotAbove(t, a, b, sum)
		}
	}
}

// checkNotAbove holds the sum of the greatest numbers that are not above two bounds against what Add told of them.
func checkNotAbove(t *testing.T, a, b, sum int) {
	t.Helper()
	if sum == None {
		return
	}
	if Near(a) == None || Near(b) == None {
		t.Fatal("P1.4: a sum of something without a bound has one:", a, b, sum)
	}
	greatest := new(big.Int).Add(big.NewInt(int64(Near(a))), big.NewInt(int64(Near(b))))
	if greatest.Cmp(big.NewInt(int64(sum))) > 0 {
		t.Fatal("P1.4: a sum is above Add:", a, b, sum)
	}
}
