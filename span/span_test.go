package span

import (
	"math"
	"math/big"
	"slices"
	"testing"

	"helmsman/api"
	"helmsman/bound"
)

// small are all spans from -reach to reach, and the empty one.
func small(reach int) []Span {
	l := []Span{{1, 0}}
	for low := -reach; low <= reach; low++ {
		for high := low; high <= reach; high++ {
			l = append(l, Span{low, high})
		}
	}
	return l
}

// wrong are spans that are not right.
func wrong() []Span {
	return []Span{
		{0, -1}, {2, 1}, {5, 4}, {1, -1}, {2, 0}, {api.Max, -api.Max},
		{0, api.Max + 1}, {-api.Max - 1, 0}, {-api.Max - 1, api.Max + 1},
		{api.Max + 1, api.Max + 1}, {-api.Max - 1, -api.Max - 1}, {api.Max, api.Max + 1},
		{math.MinInt, math.MaxInt}, {math.MaxInt, math.MinInt}, {math.MinInt, math.MinInt}, {math.MaxInt, math.MaxInt}, {1, math.MinInt},
	}
}

// edged are narrow spans at the edges of the whole numbers, around 0, and where a product or a wrapped int turns over.
func edged() []Span {
	var l []Span
	for _, c := range []int{-api.Max, -api.Max + 2, -1 << 32, -1 << 30, 0, 1 << 30, 1 << 32, api.Max / 2, api.Max - 2, api.Max} {
		for low := c - 2; low <= c+2; low++ {
			for high := low; high <= c+2; high++ {
				if bound.In(low) && bound.In(high) {
					l = append(l, Span{low, high})
				}
			}
		}
	}
	return l
}

// wide are spans that are too great to be gone through number by number, and those that are not right.
func wide() []Span {
	ends := []int{-api.Max, -api.Max + 1, -api.Max / 2, -1 << 30, -3, -1, 0, 1, 2, 1 << 30, api.Max / 2, api.Max - 1, api.Max}
	l := append(wrong(), Span{1, 0})
	for i, low := range ends {
		for _, high := range ends[i:] {
			l = append(l, Span{low, high})
		}
	}
	return l
}

func isEmpty(s Span) bool { return s == Span{1, 0} }

// plain is s, or the empty span if s is not right, by the chapter's words.
func plain(s Span) Span {
	if s.Low <= s.High && -api.Max <= s.Low && s.High <= api.Max {
		return s
	}
	return Span{1, 0}
}

func TestMade(t *testing.T) {
	if s := Empty(); s != (Span{1, 0}) {
		t.Error("P2.1: Empty is", s)
	}
	if s := Full(); s != (Span{-1152921504606846976, 1152921504606846976}) {
		t.Error("P2.1: Full is", s)
	}
}

func TestOf(t *testing.T) {
	for _, x := range []struct {
		low, high int
		want      Span
	}{
		{0, 3, Span{0, 3}}, {-3, -3, Span{-3, -3}}, {1, 0, Span{1, 0}}, {4, 3, Span{1, 0}}, {api.Max, -api.Max, Span{1, 0}},
		{-api.Max, api.Max, Span{-api.Max, api.Max}}, {api.Max, api.Max, Span{api.Max, api.Max}}, {-api.Max, -api.Max, Span{-api.Max, -api.Max}},
		{-api.Max - 1, 3, Span{-api.Max, 3}}, {3, api.Max + 1, Span{3, api.Max}}, {math.MinInt, math.MaxInt, Span{-api.Max, api.Max}},
		{api.Max, api.Max + 1, Span{api.Max, api.Max}}, {-api.Max - 1, -api.Max, Span{-api.Max, -api.Max}},
		{api.Max + 1, api.Max + 2, Span{1, 0}}, {-api.Max - 2, -api.Max - 1, Span{1, 0}},
		{math.MaxInt, math.MaxInt, Span{1, 0}}, {math.MinInt, math.MinInt, Span{1, 0}}, {math.MaxInt, math.MinInt, Span{1, 0}},
	} {
		if s := Of(x.low, x.high); s != x.want {
			t.Error("P2.1: Of", x.low, x.high, "is", s, "not", x.want)
		}
	}
}

func TestHull(t *testing.T) {
	for _, x := range []struct {
		l    []int
		want Span
	}{
		{nil, Span{1, 0}}, {[]int{}, Span{1, 0}}, {[]int{0}, Span{0, 0}}, {[]int{7}, Span{7, 7}}, {[]int{-7}, Span{-7, -7}},
		{[]int{3, -1, 2}, Span{-1, 3}}, {[]int{5, 9, 7}, Span{5, 9}}, {[]int{-5, -9, -7}, Span{-9, -5}}, {[]int{4, 4, 4}, Span{4, 4}},
		{[]int{api.Max, -api.Max}, Span{-api.Max, api.Max}},
		{[]int{5, api.Max + 1}, Span{5, api.Max}}, {[]int{math.MinInt, 5}, Span{-api.Max, 5}}, {[]int{math.MinInt, math.MaxInt}, Span{-api.Max, api.Max}},
		{[]int{api.Max + 1}, Span{1, 0}}, {[]int{math.MaxInt, api.Max + 1}, Span{1, 0}}, {[]int{-api.Max - 1, math.MinInt}, Span{1, 0}},
	} {
		given := slices.Clone(x.l)
		if s := Hull(x.l...); s != x.want {
			t.Error("P2.1: Hull", x.l, "is", s, "not", x.want)
		}
		if !slices.Equal(given, x.l) {
			t.Error("R5: Hull has changed", given, "to", x.l)
		}
	}
	if s := Hull(); s != (Span{1, 0}) {
		t.Error("P2.1: Hull of nothing is", s)
	}
}

func TestRight(t *testing.T) {
	for _, s := range append(small(3), edged()...) {
		if !Right(s) {
			t.Error("P2.1: not right:", s)
		}
	}
	for _, s := range wrong() {
		if Right(s) {
			t.Error("P2.1: right:", s)
		}
	}
	if !Right(Empty()) || !Right(Full()) || !Right(Span{}) {
		t.Error("P2.1: Right of Empty, Full, 0..0")
	}
}

func TestHas(t *testing.T) {
	for _, s := range small(3) {
		for n := -5; n <= 5; n++ {
			if got := Has(s, n); got != (s.Low <= n && n <= s.High) {
				t.Error("P2.1: Has", s, n, "is", got)
			}
		}
	}
	for _, s := range wrong() {
		for _, n := range []int{s.Low, s.High, 0, 1, api.Max, -api.Max, math.MinInt, math.MaxInt} {
			if Has(s, n) {
				t.Error("P2.1: a span that is not right has a number:", s, n)
			}
		}
	}
	if !Has(Full(), api.Max) || !Has(Full(), -api.Max) || Has(Full(), api.Max+1) || Has(Full(), -api.Max-1) || Has(Full(), math.MinInt) {
		t.Error("P2.1: Has of Full")
	}
}

func TestText(t *testing.T) {
	for _, x := range []struct {
		s    Span
		want string
	}{
		{Span{0, 0}, "0..0"}, {Span{-1, 2}, "-1..2"}, {Span{-20, -10}, "-20..-10"}, {Span{1, 100}, "1..100"}, {Span{1, 0}, "none"},
		{Span{-api.Max, api.Max}, "-1152921504606846976..1152921504606846976"},
	} {
		if s := Text(x.s); s != x.want {
			t.Error("P2.1: Text", x.s, "is", s, "not", x.want)
		}
	}
	for _, s := range wrong() {
		if got := Text(s); got != "none" {
			t.Error("P2.1: Text of a span that is not right:", s, got)
		}
	}
}

// TestSets holds Leq, Join and Meet against the numbers that small spans have.
func TestSets(t *testing.T) {
	const reach = 4
	for _, a := range small(reach) {
		for _, b := range small(reach) {
			leq := true
			var both, either []int
			for n := -reach; n <= reach; n++ {
				inA, inB := a.Low <= n && n <= a.High, b.Low <= n && n <= b.High
				leq = leq && (!inA || inB)
				if inA && inB {
					both = append(both, n)
				}
				if inA || inB {
					either = append(either, n)
				}
			}
			if got := Leq(a, b); got != leq {
				t.Error("P2.2: Leq", a, b, "is", got)
			}
			if got := Join(a, b); got != fromTo(either) {
				t.Error("P2.2: Join", a, b, "is", got)
			}
			if got := Meet(a, b); got != fromTo(both) {
				t.Error("P2.2: Meet", a, b, "is", got)
			}
		}
	}
}

// fromTo is the span of a rising list.
func fromTo(l []int) Span {
	if len(l) == 0 {
		return Span{1, 0}
	}
	return Span{l[0], l[len(l)-1]}
}

func TestSetsAtEdges(t *testing.T) {
	full := Span{-api.Max, api.Max}
	for _, x := range []struct {
		a, b, join, meet Span
		leq              bool
	}{
		{Span{-api.Max, -api.Max}, Span{api.Max, api.Max}, full, Span{1, 0}, false},
		{full, full, full, full, true},
		{Span{0, api.Max}, full, full, Span{0, api.Max}, true},
		{full, Span{0, api.Max}, full, Span{0, api.Max}, false},
		{Span{-api.Max, 0}, Span{0, api.Max}, full, Span{0, 0}, false},
		{Span{1, 0}, full, full, Span{1, 0}, true},
		{full, Span{1, 0}, full, Span{1, 0}, false},
	} {
		if join, meet, leq := Join(x.a, x.b), Meet(x.a, x.b), Leq(x.a, x.b); join != x.join || meet != x.meet || leq != x.leq {
			t.Error("P2.2:", x.a, x.b, "are", join, meet, leq)
		}
	}
}

// TestWrongIsEmpty: each call takes a span that is not right as the empty one.
func TestWrongIsEmpty(t *testing.T) {
	steps := []int{-10, 0, 10}
	for _, a := range wide() {
		for _, b := range wide() {
			x, y := plain(a), plain(b)
			if Leq(a, b) != Leq(x, y) || Join(a, b) != Join(x, y) || Meet(a, b) != Meet(x, y) {
				t.Fatal("P2.2: Leq, Join or Meet:", a, b)
			}
			if Widen(a, b, steps) != Widen(x, y, steps) || Narrow(a, b) != Narrow(x, y) {
				t.Fatal("P2.2: Widen or Narrow:", a, b)
			}
			for op := bound.Plus; op <= bound.Divide; op++ {
				s, over := Calc(op, a, b)
				if s2, over2 := Calc(op, x, y); s != s2 || over != over2 {
					t.Fatal("P2.3: Calc:", op, a, b)
				}
			}
		}
	}
}

// TestResultsAreRight: whatever is handed in, what comes out is a right span.
func TestResultsAreRight(t *testing.T) {
	for _, a := range wide() {
		for _, b := range wide() {
			l := []Span{Join(a, b), Meet(a, b), Narrow(a, b), Widen(a, b, nil), Widen(a, b, []int{math.MinInt, -2, 2, math.MaxInt})}
			for op := bound.Plus - 1; op <= bound.Divide+1; op++ {
				s, _ := Calc(op, a, b)
				l = append(l, s)
			}
			for i, s := range l {
				if !Right(s) {
					t.Fatal("P2.2, P2.3: not right:", i, a, b, s)
				}
			}
		}
	}
}

func TestWiden(t *testing.T) {
	// Out of order, twice, and with numbers that are not whole ones.
	steps := []int{100, 4, math.MaxInt, -8, 8, api.Max + 1, 4, -100, math.MinInt, -api.Max - 1}
	given := slices.Clone(steps)
	for _, x := range []struct{ a, b, want Span }{
		{Span{0, 3}, Span{0, 3}, Span{0, 3}},
		{Span{0, 3}, Span{1, 2}, Span{0, 3}},
		{Span{0, 3}, Span{0, 4}, Span{0, 4}},
		{Span{0, 3}, Span{2, 5}, Span{0, 8}},
		{Span{0, 3}, Span{50, 60}, Span{0, 100}},
		{Span{0, 3}, Span{0, 100}, Span{0, 100}},
		{Span{0, 3}, Span{0, 101}, Span{0, api.Max}},
		{Span{0, 3}, Span{-1, 3}, Span{-8, 3}},
		{Span{0, 3}, Span{-8, 3}, Span{-8, 3}},
		{Span{0, 3}, Span{-9, 3}, Span{-100, 3}},
		{Span{0, 3}, Span{-101, 3}, Span{-api.Max, 3}},
		{Span{0, 3}, Span{-9, 9}, Span{-100, 100}},
		{Span{50, 60}, Span{20, 55}, Span{8, 60}},
		{Span{-60, -50}, Span{-55, -20}, Span{-60, -8}},
		{Span{0, 3}, Span{-api.Max, api.Max}, Span{-api.Max, api.Max}},
		{Span{0, 3}, Span{1, 0}, Span{0, 3}},
		{Span{5, 6}, Span{1, 0}, Span{5, 6}},
		{Span{-6, -5}, Span{1, 0}, Span{-6, -5}},
		{Span{1, 0}, Span{5, 6}, Span{5, 6}},
		{Span{1, 0}, Span{1, 0}, Span{1, 0}},
	} {
		if w := Widen(x.a, x.b, steps); w != x.want {
			t.Error("P2.2: Widen", x.a, x.b, "is", w, "not", x.want)
		}
	}
	if !slices.Equal(steps, given) {
		t.Error("R5: Widen has changed its steps:", steps)
	}
}

func TestWidenWithoutSteps(t *testing.T) {
	for _, steps := range [][]int{nil, {}, {api.Max + 1, -api.Max - 1}, {math.MinInt, math.MaxInt}} {
		for _, x := range []struct{ a, b, want Span }{
			{Span{0, 3}, Span{0, 4}, Span{0, api.Max}},
			{Span{0, 3}, Span{-1, 3}, Span{-api.Max, 3}},
			{Span{0, 3}, Span{-1, 4}, Span{-api.Max, api.Max}},
			{Span{0, 3}, Span{1, 2}, Span{0, 3}},
			{Span{1, 0}, Span{4, 5}, Span{4, 5}},
		} {
			if w := Widen(x.a, x.b, steps); w != x.want {
				t.Error("P2.2: Widen", x.a, x.b, steps, "is", w, "not", x.want)
			}
		}
	}
	// Steps at the very ends are whole numbers.
	if w := Widen(Span{0, 3}, Span{-1, 4}, []int{-api.Max, api.Max}); w != (Span{-api.Max, api.Max}) {
		t.Error("P2.2: Widen to the ends is", w)
	}
}

func TestNarrow(t *testing.T) {
	for _, x := range []struct{ a, b, want Span }{
		{Span{-api.Max, 5}, Span{0, 3}, Span{0, 5}},
		{Span{0, api.Max}, Span{1, 3}, Span{0, 3}},
		{Span{0, 5}, Span{1, 3}, Span{0, 5}},
		{Span{0, 5}, Span{-3, 9}, Span{0, 5}},
		{Span{-api.Max, api.Max}, Span{1, 3}, Span{1, 3}},
		{Span{-api.Max, api.Max}, Span{-api.Max, api.Max}, Span{-api.Max, api.Max}},
		{Span{-api.Max, 5}, Span{5, 9}, Span{5, 5}},
		{Span{-api.Max, 5}, Span{6, 9}, Span{1, 0}},
		{Span{5, api.Max}, Span{1, 4}, Span{1, 0}},
		{Span{5, api.Max}, Span{1, 5}, Span{5, 5}},
		{Span{-api.Max, -api.Max}, Span{0, 3}, Span{1, 0}},
		{Span{-api.Max, -api.Max}, Span{-api.Max, 3}, Span{-api.Max, -api.Max}},
		{Span{api.Max, api.Max}, Span{0, 3}, Span{1, 0}},
		{Span{-api.Max + 1, api.Max - 1}, Span{0, 3}, Span{-api.Max + 1, api.Max - 1}},
		{Span{1, 0}, Span{1, 3}, Span{1, 0}},
		{Span{0, 5}, Span{1, 0}, Span{1, 0}},
		{Span{-api.Max, api.Max}, Span{1, 0}, Span{1, 0}},
		{Span{1, 0}, Span{1, 0}, Span{1, 0}},
	} {
		if n := Narrow(x.a, x.b); n != x.want {
			t.Error("P2.2: Narrow", x.a, x.b, "is", n, "not", x.want)
		}
	}
}

// comes is what comes of two numbers, reckoned without an end; nil, if they are divided by 0.
func comes(op, x, y int) *big.Int {
	n, a, b := new(big.Int), big.NewInt(int64(x)), big.NewInt(int64(y))
	switch op {
	case bound.Plus:
		return n.Add(a, b)
	case bound.Minus:
		return n.Sub(a, b)
	case bound.Times:
		return n.Mul(a, b)
	}
	if y == 0 {
		return nil
	}
	return n.Quo(a, b)
}

// held is n, or the number just beyond the whole ones on its side, so that it fits an int.
func held(n *big.Int) int {
	if n.CmpAbs(big.NewInt(api.Max)) <= 0 {
		return int(n.Int64())
	}
	return n.Sign() * (api.Max + 1)
}

// exact is what P2.3 asks of Calc of two right spans that are narrow, number by number.
func exact(op int, a, b Span) (Span, bool) {
	var least, greatest *big.Int
	over := false
	for x := a.Low; x <= a.High; x++ {
		for y := b.Low; y <= b.High; y++ {
			n := comes(op, x, y)
			if n == nil {
				over = true
				continue
			}
			if least == nil || n.Cmp(least) < 0 {
				least = n
			}
			if greatest == nil || n.Cmp(greatest) > 0 {
				greatest = n
			}
		}
	}
	if least == nil {
		return Span{1, 0}, over
	}
	low, high := held(least), held(greatest)
	over = over || low < -api.Max || high > api.Max || low > api.Max || high < -api.Max
	return plain(Span{max(low, -api.Max), min(high, api.Max)}), over
}

func checkExact(t *testing.T, l []Span) {
	t.Helper()
	for op := bound.Plus; op <= bound.Divide; op++ {
		for _, a := range l {
			for _, b := range l {
				s, over := Calc(op, a, b)
				if wantS, wantOver := exact(op, a, b); s != wantS || over != wantOver {
					t.Fatal("P2.3: Calc", op, a, b, "is", s, over, "not", wantS, wantOver)
				}
			}
		}
	}
}

func TestCalcSmall(t *testing.T) { checkExact(t, small(6)) }

func TestCalcAtEdges(t *testing.T) { checkExact(t, edged()) }

func TestCalcTold(t *testing.T) {
	full := Span{-api.Max, api.Max}
	for _, x := range []struct {
		op      int
		a, b, s Span
		over    bool
	}{
		{bound.Plus, Span{1, 2}, Span{-3, 4}, Span{-2, 6}, false},
		{bound.Plus, full, Span{0, 0}, full, false},
		{bound.Plus, full, Span{1, 1}, Span{-api.Max + 1, api.Max}, true},
		{bound.Plus, Span{-api.Max, 0}, Span{0, api.Max}, full, false},
		{bound.Plus, full, full, full, true},
		{bound.Plus, Span{api.Max, api.Max}, Span{1, 1}, Span{1, 0}, true},
		{bound.Plus, Span{-api.Max, -1}, Span{-api.Max, -api.Max}, Span{1, 0}, true},
		{bound.Minus, Span{1, 2}, Span{-3, 4}, Span{-3, 5}, false},
		{bound.Minus, Span{0, 0}, full, full, false},
		{bound.Minus, Span{1, 1}, full, Span{-api.Max + 1, api.Max}, true},
		{bound.Minus, Span{-1, 0}, full, full, true},
		{bound.Minus, full, full, full, true},
		{bound.Times, Span{-2, 3}, Span{-5, 4}, Span{-15, 12}, false},
		{bound.Times, Span{0, 0}, full, Span{0, 0}, false},
		{bound.Times, Span{-1, 1}, full, full, false},
		{bound.Times, Span{0, 2}, full, full, true},
		{bound.Times, Span{2, 3}, Span{0, api.Max}, Span{0, api.Max}, true},
		{bound.Times, Span{-3, -2}, Span{0, api.Max}, Span{-api.Max, 0}, true},
		{bound.Times, Span{1 << 40, 1 << 41}, Span{1 << 40, 1 << 41}, Span{1, 0}, true},
		{bound.Times, Span{1 << 40, 1 << 41}, Span{-1 << 41, -1 << 40}, Span{1, 0}, true},
		{bound.Times, Span{-1 << 41, -1 << 40}, Span{-1 << 41, -1 << 40}, Span{1, 0}, true},
		{bound.Times, Span{1 << 32, 1 << 32}, Span{-1, 1 << 32}, Span{-1 << 32, api.Max}, true},
		{bound.Times, full, full, full, true},
		{bound.Divide, Span{1, 7}, Span{-2, 2}, Span{-7, 7}, true},
		{bound.Divide, Span{1, 7}, Span{2, 2}, Span{0, 3}, false},
		{bound.Divide, Span{-7, 7}, Span{2, 3}, Span{-3, 3}, false},
		{bound.Divide, Span{5, 6}, Span{0, 0}, Span{1, 0}, true},
		{bound.Divide, full, Span{0, 0}, Span{1, 0}, true},
		{bound.Divide, Span{0, 0}, Span{0, 0}, Span{1, 0}, true},
		{bound.Divide, Span{-9, -4}, Span{-3, 0}, Span{1, 9}, true},
		{bound.Divide, Span{4, 9}, Span{0, 3}, Span{1, 9}, true},
		{bound.Divide, Span{4, 9}, Span{-3, -1}, Span{-9, -1}, false},
		{bound.Divide, full, Span{-1, -1}, full, false},
		{bound.Divide, full, full, full, true},
		{bound.Divide, full, Span{2, api.Max}, Span{-api.Max / 2, api.Max / 2}, false},
		{bound.Divide, Span{1, api.Max - 1}, Span{api.Max, api.Max}, Span{0, 0}, false},
	} {
		if s, over := Calc(x.op, x.a, x.b); s != x.s || over != x.over {
			t.Error("P2.3: Calc", x.op, x.a, x.b, "is", s, over, "not", x.s, x.over)
		}
	}
}

func TestCalcOfNothing(t *testing.T) {
	for op := bound.Plus; op <= bound.Divide; op++ {
		for _, none := range append(wrong(), Span{1, 0}) {
			for _, s := range append(wrong(), Span{1, 0}, Span{0, 0}, Span{-1, 5}, Span{-api.Max, api.Max}) {
				if got, over := Calc(op, none, s); !isEmpty(got) || over {
					t.Error("P2.3: Calc", op, none, s, "is", got, over)
				}
				if got, over := Calc(op, s, none); !isEmpty(got) || over {
					t.Error("P2.3: Calc", op, s, none, "is", got, over)
				}
			}
		}
	}
	for _, op := range []int{-1, 4, 5, math.MinInt, math.MaxInt} {
		for _, s := range wide() {
			if got, over := Calc(op, s, Span{0, api.Max}); !isEmpty(got) || over {
				t.Error("P2.3: Calc of no op", op, s, "is", got, over)
			}
		}
	}
}

// picks are some numbers of a span: its ends, those beside them and beside 0, and the middle.
func picks(s Span) []int {
	var l []int
	for _, n := range []int{s.Low, s.Low + 1, s.High - 1, s.High, -1, 0, 1, (s.Low + s.High) / 2, 1 << 30, -1 << 31} {
		if s.Low <= n && n <= s.High {
			l = append(l, n)
		}
	}
	return l
}

// TestCalcFollows holds Calc of wide spans against bound.Calc of numbers in them.
func TestCalcFollows(t *testing.T) {
	for op := bound.Plus; op <= bound.Divide; op++ {
		for _, a := range wide() {
			for _, b := range wide() {
				s, over := Calc(op, a, b)
				for _, x := range picks(plain(a)) {
					for _, y := range picks(plain(b)) {
						n, e := bound.Calc(op, x, y)
						if e == api.OK && (n < s.Low || n > s.High) {
							t.Fatal("P2.4: Calc", op, a, b, "is", s, "without", n, "of", x, y)
						}
						if e != api.OK && !over {
							t.Fatal("P2.4: Calc", op, a, b, "tells no error, but that of", x, y, "is", e)
						}
					}
				}
			}
		}
	}
}

func TestJoinAndMeetHangOnNoOrder(t *testing.T) {
	l := append(wide(), small(2)...)
	for _, a := range l {
		for _, b := range l {
			if Join(a, b) != Join(b, a) || Meet(a, b) != Meet(b, a) {
				t.Fatal("P2.4: Join or Meet hangs on the order:", a, b)
			}
		}
	}
	for _, a := range small(2) {
		for _, b := range small(2) {
			for _, c := range small(2) {
				if Join(a, Join(b, c)) != Join(Join(a, b), c) || Meet(a, Meet(b, c)) != Meet(Meet(a, b), c) {
					t.Fatal("P2.4: Join or Meet hangs on the order:", a, b, c)
				}
			}
		}
	}
}

// changes tells how often s changes, widened by each of l in turn.
func changes(t *testing.T, s Span, l []Span, steps []int) int {
	t.Helper()
	count := 0
	for _, b := range l {
		w := Widen(s, b, steps)
		if !Leq(s, w) || !Leq(b, w) {
			t.Fatal("P2.2: Widen", s, b, steps, "leaves something out:", w)
		}
		if w != s {
			count++
		}
		s = w
	}
	return count
}

// growing are spans that are each a bit greater than the one ahead, at one end and then at the other, up to the ends of all.
func growing() []Span {
	l := []Span{{1, 0}}
	for n := range 40 {
		l = append(l, Span{-n, n}, Span{-n, n + 1})
	}
	for n := 64; n < api.Max; n *= 2 {
		l = append(l, Span{-n + 1, n - 1}, Span{-n, n})
	}
	return append(l, Span{-api.Max, 0}, Span{0, api.Max}, Span{-api.Max, api.Max}, Span{1, 0})
}

func TestWidenComesToRest(t *testing.T) {
	turned := growing()
	slices.Reverse(turned)
	for _, steps := range [][]int{
		nil, {0}, {5}, {-5, 5}, {7, 7, 7}, {-30, -20, -10, 10, 20, 30}, {30, -30, 20, -20, 10, -10},
		{-api.Max, api.Max}, {math.MinInt, math.MaxInt}, {-1, 0, 1, 2, 4, 8, 16, 32, 1 << 40, api.Max - 1, -api.Max + 1},
	} {
		most := 2*len(steps) + 4
		for _, start := range append(wrong(), Span{1, 0}, Span{0, 0}, Span{-3, 3}, Span{12, 12}, Span{-api.Max, api.Max}) {
			for _, l := range [][]Span{growing(), turned, small(12), edged(), wide()} {
				if n := changes(t, start, l, steps); n > most {
					t.Error("P2.4: widened with", steps, "from", start, "it changes", n, "times, not at most", most)
				}
			}
		}
	}
}
