package zone

import (
	"math"
	"slices"
	"strconv"
	"testing"

	"helmsman/api"
	"helmsman/bound"
	"helmsman/span"
)

const (
	maxText  = "1152921504606846976"
	edgeText = "2305843009213693952"
)

// boxed is a zone of variables that have a span each, and no more.
func boxed(l ...span.Span) Zone {
	z := Zone{N: len(l)}
	for k := range (len(l) + 1) * (len(l) + 1) {
		i, j := k/(len(l)+1), k%(len(l)+1)
		high, low := 0, 0
		if i > 0 {
			high = l[i-1].High
		}
		if j > 0 {
			low = l[j-1].Low
		}
		d := high - low
		if i == j {
			d = 0
		}
		z.D = append(z.D, d)
	}
	return z
}

func from(low, high int) span.Span { return span.Span{Low: low, High: high} }

func TestTopAndBottom(t *testing.T) {
	for n := range 7 {
		top := Zone{N: n}
		for k := range (n + 1) * (n + 1) {
			top.D = append(top.D, apart(k/(n+1), k%(n+1)))
		}
		check(t, "P3.1: Top", Top(n), top)
		check(t, "P3.1: Bottom", Bottom(n), Zone{N: n})
		if !Right(Top(n)) || !Right(Bottom(n)) || Same(Top(n), Bottom(n)) {
			t.Error("P3.1: Right or Same of Top and Bottom:", n)
		}
		for _, x := range []int{-api.Max, 0, api.Max} {
			if p := slices.Repeat([]int{x}, n); !Has(Top(n), p) || Has(Bottom(n), p) {
				t.Error("P3.1: Has of Top and Bottom:", n, x)
			}
		}
	}
	for _, n := range []int{-1, 7, 8, math.MinInt, math.MaxInt, 1 << 32, -1 << 32} {
		check(t, "P3.1: Top of an N that may not be", Top(n), Zone{})
		check(t, "P3.1: Bottom of an N that may not be", Bottom(n), Zone{})
	}
}

func TestCloseTold(t *testing.T) {
	const none, edge, most = bound.None, bound.Edge, api.Max
	for i, x := range []struct {
		n    int
		d    []int
		want []int
	}{
		{0, []int{0}, []int{0}}, {0, []int{7}, []int{0}}, {0, []int{-1}, nil}, {0, nil, nil}, {0, []int{0, 0}, nil},
		{1, []int{0, 3, 5, 0}, []int{0, 3, 5, 0}},
		{1, []int{9, 3, 5, none}, []int{0, 3, 5, 0}},
		{1, []int{0, -5, 5, 0}, []int{0, -5, 5, 0}},
		{1, []int{0, -5, 4, 0}, nil},
		{1, []int{0, 3, 5, -1}, nil},
		{1, []int{0, none, none, 0}, []int{0, most, most, 0}},
		{1, []int{0, most + 1, edge, 0}, []int{0, most, most, 0}},
		{1, []int{0, math.MaxInt, edge + 1, 0}, []int{0, most, most, 0}},
		{1, []int{0, most, -most, 0}, []int{0, most, -most, 0}},
		{1, []int{0, most, -most - 1, 0}, nil},
		{1, []int{0, most, math.MinInt, 0}, nil},
		{1, []int{0, math.MinInt, most, 0}, nil},
		{1, []int{0, 3, 5}, nil}, {1, []int{0, 3, 5, 0, 0}, nil}, {1, []int{}, nil},
		{2, []int{0, none, none, 5, 0, none, none, -3, 0}, []int{0, most - 3, most, 5, 0, most + 5, 2, -3, 0}},
		{2, []int{0, none, none, none, 0, -1, none, 0, 0}, nil},
		{2, []int{0, none, none, none, 0, -1, none, 1, 0}, []int{0, most, most - 1, most - 1, 0, -1, most, 1, 0}},
		// As far apart as can be, and Near of what would be farther.
		{2, []int{0, none, none, none, 0, -edge, none, none, 0}, []int{0, most, -most, -most, 0, -edge, most, edge, 0}},
		{2, []int{0, none, none, none, 0, -edge - 1, none, none, 0}, []int{0, most, -most, -most, 0, -edge, most, edge, 0}},
		{2, []int{0, none, none, none, 0, math.MinInt, none, none, 0}, []int{0, most, -most, -most, 0, -edge, most, edge, 0}},
		{2, []int{0, most - 1, none, none, 0, -edge, none, none, 0}, nil},
		// Sums of two bounds that are no bounds any more.
		{3, []int{0, none, none, none, none, 0, -edge, none, none, none, 0, -1, none, none, none, 0}, nil},
		{3, []int{0, none, none, none, none, 0, none, none, none, -edge, 0, none, none, none, -1, 0}, nil},
		{3, []int{0, none, none, none, none, 0, none, none, none, -edge, 0, none, none, none, 0, 0}, []int{0, -most, most, most, most, 0, edge, edge, -most, -edge, 0, 0, -most, -edge, 0, 0}},
	} {
		check(t, "P3.1: Close of row "+strconv.Itoa(i), Close(Zone{N: x.n, D: x.d}), Zone{N: x.n, D: x.want})
	}
	for _, n := range []int{-1, 7, math.MinInt, math.MaxInt, 1 << 32} {
		check(t, "P3.1: Close of an N that may not be", Close(Zone{N: n, D: []int{0}}), Zone{})
	}
}

// TestCloseExact holds Close against numbers without an end, for bounds near 0, far out, and both.
func TestCloseExact(t *testing.T) {
	r := row(1)
	pools := [][]int{near0(), farOut(), append(near0(), farOut()...)}
	points := 0
	for round := range 14000 {
		n, pool := round%7, pools[round/7%3]
		z := sparse(&r, n, pool)
		if round%2 == 0 {
			z = bounds(&r, n, pool)
		}
		got := Close(z)
		check(t, "P3.1: Close", got, exact(z, bound.Near))
		check(t, "P3.1: Close of Close", Close(got), got)
		if !rightByWords(got) {
			t.Fatal("P3.1: Close is not right:", z, got)
		}
		if len(got.D) > 0 {
			points++
		}
	}
	if points < 1500 {
		t.Error("too few zones have points:", points)
	}
}

// TestClosePoints holds Close against all points of small zones, and against points far out.
func TestClosePoints(t *testing.T) {
	r := row(2)
	for round := range 6000 {
		n := round % 4
		z := sparse(&r, n, near0())
		for i := 1; i <= n; i++ {
			z.D[i], z.D[i*(n+1)] = r.next(4), r.next(4)-1
		}
		inside := chosen(points(n, upTo(3)), func(p []int) bool { return holds(z, p) })
		check(t, "P3.1: Close", Close(z), hull(n, inside))
	}
	for round := range 600 {
		z := sparse(&r, round%4, farOut())
		checkPoints(t, "P3.1: Close", Close(z), func(p []int) bool { return holds(z, p) })
	}
}

func TestRight(t *testing.T) {
	for _, z := range wrong() {
		if Right(z) {
			t.Error("P3.1: right:", z)
		}
	}
	r := row(3)
	for round := range 4000 {
		z := exact(sparse(&r, round%7, [][]int{near0(), farOut()}[round%2]), bound.Near)
		if !Right(z) {
			t.Fatal("P3.1: not right:", z)
		}
		if len(z.D) == 0 {
			continue
		}
		// One bound that is another one may break the rest, or not: the chapter's words tell.
		k := r.next(len(z.D))
		for _, b := range []int{z.D[k] - 1, z.D[k] + 1, z.D[k] + 1<<20, 0, bound.None, -bound.Edge, math.MinInt, math.MaxInt} {
			other := Zone{N: z.N, D: slices.Clone(z.D)}
			other.D[k] = b
			if Right(other) != rightByWords(other) {
				t.Fatal("P3.1: Right is", Right(other), "of", other)
			}
		}
	}
}

func TestSame(t *testing.T) {
	l, right := some(), plains(some())
	for i, a := range l {
		for j, b := range l {
			if got := Same(a, b); got != alike(right[i], right[j]) {
				t.Fatal("P3.1: Same is", got, "of", a, b)
			}
		}
	}
	for _, x := range []struct {
		a, b Zone
		want bool
	}{
		{Zone{N: 1}, Zone{N: 1, D: []int{}}, true}, {Zone{N: 1}, Zone{N: 2}, false}, {Zone{}, Zone{N: 0, D: []int{0}}, false},
		{boxed(from(0, 3)), boxed(from(0, 3)), true}, {boxed(from(0, 3)), boxed(from(0, 4)), false},
		{boxed(from(0, 3), from(0, 3)), Zone{N: 2, D: []int{0, 0, 0, 3, 0, 2, 3, 3, 0}}, false},
		{boxed(from(0, 3), from(0, 3)), Zone{N: 2, D: []int{0, 0, 0, 3, 0, bound.None, 3, 7, 0}}, true},
		{Zone{N: 9}, Zone{}, true}, {Zone{N: 3, D: []int{5}}, Zone{N: 3}, true},
	} {
		if Same(x.a, x.b) != x.want || Same(x.b, x.a) != x.want {
			t.Error("P3.1: Same is not", x.want, "of", x.a, x.b)
		}
	}
}

func TestGetAndSpan(t *testing.T) {
	for _, z := range some() {
		right := plain(z)
		for _, i := range odd() {
			named := len(right.D) > 0 && 1 <= i && i <= right.N
			want := span.Span{Low: 1, High: 0}
			if named {
				want = span.Span{Low: -right.D[i], High: right.D[i*(right.N+1)]}
			}
			if got := Span(z, i); got != want {
				t.Fatal("P3.1: Span", z, i, "is", got, "not", want)
			}
			for _, j := range odd() {
				want := -bound.Edge
				if len(right.D) > 0 && 0 <= i && i <= right.N && 0 <= j && j <= right.N {
					want = right.D[i*(right.N+1)+j]
				}
				if got := Get(z, i, j); got != want {
					t.Fatal("P3.1: Get", z, i, j, "is", got, "not", want)
				}
			}
		}
	}
	z := Zone{N: 2, D: []int{0, 1, 2, 5, 0, 6, 6, 4, 0}}
	if Get(z, 1, 2) != 6 || Get(z, 2, 1) != 4 || Get(z, 0, 2) != 2 || Get(z, 2, 0) != 6 || Span(z, 1) != from(-1, 5) || Span(z, 2) != from(-2, 6) {
		t.Error("P3.1: rows and columns")
	}
}

func TestHas(t *testing.T) {
	for _, z := range some() {
		right := plain(z)
		if right.N <= 3 {
			for _, p := range points(right.N, append(ends(), api.Max+1, -api.Max-1, math.MinInt, math.MaxInt)) {
				whole := !slices.ContainsFunc(p, func(n int) bool { return n < -api.Max || n > api.Max })
				if got := Has(z, p); got != (whole && holds(right, p)) {
					t.Fatal("P3.1: Has", z, p, "is", got)
				}
			}
		}
		for n := range 9 {
			if p := make([]int, n); n != right.N && Has(z, p) {
				t.Fatal("P3.1: Has", z, p, "is true")
			}
		}
	}
	if !Has(Top(0), nil) || !Has(Top(0), []int{}) || Has(Bottom(0), nil) || Has(Top(1), nil) || Has(Top(0), []int{0}) || Has(Zone{N: 9}, make([]int, 9)) {
		t.Error("P3.1: Has of as many numbers as there must be")
	}
}

func TestText(t *testing.T) {
	for _, x := range []struct {
		z    Zone
		want string
	}{
		{Zone{}, "bottom"}, {Zone{N: 3}, "bottom"}, {Zone{N: 9, D: []int{0}}, "bottom"}, {Zone{N: 1, D: []int{0, -1, 0, 0}}, "bottom"}, {Zone{N: 1, D: []int{0}}, "bottom"},
		{Zone{N: 0, D: []int{0}}, "0"}, {Zone{N: 0, D: []int{5}}, "0"},
		{boxed(from(-1, 20)), "0 1 20 0"},
		{Zone{N: 1, D: []int{0, -10, bound.None, 0}}, "0 -10 " + maxText + " 0"},
		{boxed(from(0, 3), from(10, 20)), "0 0 -10 3 0 -7 20 20 0"},
		{boxed(from(-api.Max, -api.Max), from(api.Max, api.Max)), "0 " + maxText + " -" + maxText + " -" + maxText + " 0 -" + edgeText + " " + maxText + " " + edgeText + " 0"},
		{Zone{N: 2, D: slices.Repeat([]int{bound.None}, 9)}, "0 " + maxText + " " + maxText + " " + maxText + " 0 " + edgeText + " " + maxText + " " + edgeText + " 0"},
	} {
		if s := Text(x.z); s != x.want {
			t.Error("P3.1: Text", x.z, "is", s, "not", x.want)
		}
	}
}

// TestSetsSmall holds Leq, Join and Meet against all points that small zones have.
func TestSetsSmall(t *testing.T) {
	r := row(4)
	for round := range 6000 {
		n := round % 4
		a, b := small(&r, n, 3), small(&r, n, 3)
		if round%5 == 0 && len(a.D) > 0 {
			b = Zone{N: n, D: slices.Clone(a.D)}
			b.D[r.next(len(b.D))]++
			b = exact(b, bound.Near)
		}
		// The one bound that was raised may reach one number farther.
		all := points(n, upTo(4))
		inA := func(p []int) bool { return holds(a, p) }
		inB := func(p []int) bool { return holds(b, p) }
		leq := len(chosen(all, func(p []int) bool { return inA(p) && !inB(p) })) == 0
		if got := Leq(a, b); got != leq {
			t.Fatal("P3.2: Leq is", got, "of", a, b)
		}
		check(t, "P3.2: Join", Join(a, b), hull(n, chosen(all, func(p []int) bool { return inA(p) || inB(p) })))
		check(t, "P3.2: Meet", Meet(a, b), hull(n, chosen(all, func(p []int) bool { return inA(p) && inB(p) })))
	}
}

// TestSetsExact holds them against their bounds, reckoned by numbers without an end, for zones that are far out, too.
func TestSetsExact(t *testing.T) {
	l, right := some(), plains(some())
	for i, x := range l {
		for j, y := range l {
			a, b := right[i], right[j]
			var leq bool
			var join, meet Zone
			switch {
			case a.N != b.N:
			case len(a.D) == 0:
				leq, join, meet = true, b, a
			case len(b.D) == 0:
				join, meet = a, b
			default:
				leq, join, meet = true, Zone{N: a.N}, Zone{N: a.N}
				for k := range a.D {
					leq = leq && a.D[k] <= b.D[k]
					join.D = append(join.D, max(a.D[k], b.D[k]))
					meet.D = append(meet.D, min(a.D[k], b.D[k]))
				}
				meet = exact(meet, bound.Near)
			}
			if got := Leq(x, y); got != leq {
				t.Fatal("P3.2: Leq is", got, "of", x, y)
			}
			check(t, "P3.2: Join", Join(x, y), join)
			check(t, "P3.2: Meet", Meet(x, y), meet)
			if !Right(join) {
				t.Fatal("P3.2: the greater bounds are not right:", join)
			}
		}
	}
}

func TestSetsOfOtherN(t *testing.T) {
	for n := range 7 {
		for m := range 7 {
			if n == m {
				continue
			}
			for _, a := range []Zone{Top(n), Bottom(n)} {
				for _, b := range []Zone{Top(m), Bottom(m)} {
					if Leq(a, b) {
						t.Error("P3.2: Leq of", a, b)
					}
					check(t, "P3.2: Join", Join(a, b), Zone{})
					check(t, "P3.2: Meet", Meet(a, b), Zone{})
					check(t, "P3.3: Widen", Widen(a, b, nil), Zone{})
				}
			}
		}
	}
}

func TestForgetSmall(t *testing.T) {
	r := row(5)
	for round := range 3000 {
		n := round%3 + 1
		z, i := small(&r, n, 3), r.next(n)+1
		var want [][]int
		for _, p := range chosen(points(n, upTo(3)), func(p []int) bool { return holds(z, p) }) {
			want = append(want, with(p, i, -api.Max), with(p, i, api.Max))
		}
		check(t, "P3.4: Forget", Forget(z, i), hull(n, want))
	}
}

func TestSetSmall(t *testing.T) {
	r := row(6)
	for round := range 4000 {
		n := round%3 + 1
		z, i := small(&r, n, 3), r.next(n)+1
		s := from(r.next(9)-4, r.next(9)-4)
		if round%10 == 0 {
			s = []span.Span{from(1, 0), from(-api.Max, api.Max), from(api.Max, api.Max), from(-api.Max-1, 5), from(5, api.Max+1), from(math.MinInt, math.MaxInt), from(0, -1)}[r.next(7)]
		}
		var want [][]int
		if span.Right(s) && s.Low <= s.High {
			for _, p := range chosen(points(n, upTo(3)), func(p []int) bool { return holds(z, p) }) {
				want = append(want, with(p, i, s.Low), with(p, i, s.High))
			}
		}
		check(t, "P3.4: Set", Set(z, i, s), hull(n, want))
	}
}

func TestCopySmall(t *testing.T) {
	r := row(7)
	for round := range 4000 {
		n := round%3 + 1
		z, i, j, c := small(&r, n, 3), r.next(n)+1, r.next(n)+1, r.next(9)-4
		if round%10 == 0 {
			c = r.of([]int{api.Max, -api.Max, api.Max - 2, 2 - api.Max, api.Max + 1, -api.Max - 1, 2 * api.Max, -2 * api.Max, 2*api.Max + 1, -2*api.Max - 1, math.MinInt, math.MaxInt})
		}
		var want [][]int
		for _, p := range chosen(points(n, upTo(3)), func(p []int) bool { return holds(z, p) }) {
			if c < -2*api.Max || c > 2*api.Max || !bound.In(p[j-1]+c) {
				continue
			}
			want = append(want, with(p, i, p[j-1]+c))
		}
		check(t, "P3.4: Copy", Copy(z, i, j, c), hull(n, want))
	}
}

func TestGuardSmall(t *testing.T) {
	r := row(8)
	for round := range 6000 {
		n := round % 4
		z, i, j, c := small(&r, n, 3), r.next(n+1), r.next(n+1), r.next(15)-7
		if round%10 == 0 {
			c = r.of(append(farOut(), odd()...))
		}
		want := chosen(points(n, upTo(3)), func(p []int) bool {
			q := append([]int{0}, p...)
			return holds(z, p) && q[i]-q[j] <= c
		})
		check(t, "P3.4: Guard", Guard(z, i, j, c), hull(n, want))
	}
}

// TestChangesFarOut holds them against points at the ends of the whole numbers, in zones that reach so far.
func TestChangesFarOut(t *testing.T) {
	r := row(9)
	for round := range 900 {
		n := round%3 + 1
		z := exact(sparse(&r, n, farOut()), bound.Near)
		i, j, c := r.next(n)+1, r.next(n)+1, r.of(farOut())
		s := from(r.of(ends()), r.of(ends()))
		checkPoints(t, "P3.4: Forget", Forget(z, i), func(p []int) bool { return fits(z, p, i) })
		checkPoints(t, "P3.4: Set", Set(z, i, s), func(p []int) bool {
			return fits(z, p, i) && s.Low <= p[i-1] && p[i-1] <= s.High
		})
		checkPoints(t, "P3.4: Copy", Copy(z, i, j, c), func(p []int) bool {
			switch {
			case c < -2*api.Max || c > 2*api.Max:
				return false
			case i == j:
				return bound.In(p[i-1]-c) && holds(z, with(p, i, p[i-1]-c))
			}
			return fits(z, p, i) && p[i-1] == p[j-1]+c
		})
		i, j = r.next(n+1), r.next(n+1)
		checkPoints(t, "P3.4: Guard", Guard(z, i, j, c), func(p []int) bool {
			q := append([]int{0}, p...)
			return holds(z, p) && q[i]-q[j] <= c
		})
	}
}

// TestGuardExact: c is taken as it is, not as Near of it; else the bound of i and j is taken down to it.
func TestGuardExact(t *testing.T) {
	for _, x := range some() {
		z := plain(x)
		for i := range z.N + 1 {
			for j := range z.N + 1 {
				for _, c := range []int{math.MinInt, -bound.Edge - 1, -bound.Edge, -api.Max - 1, -api.Max, -1, 0, 2, api.Max, bound.Edge, bound.None, math.MaxInt} {
					want := z
					if len(z.D) > 0 {
						want.D = slices.Clone(z.D)
						want.D[i*(z.N+1)+j] = min(want.D[i*(z.N+1)+j], c)
						want = exact(want, asItIs)
					}
					check(t, "P3.4: Guard", Guard(x, i, j, c), want)
				}
			}
		}
	}
	check(t, "P3.4: Guard beyond all", Guard(Top(2), 1, 2, -bound.Edge-1), Zone{N: 2})
	check(t, "P3.4: Guard at the edge", Guard(Top(2), 1, 2, -bound.Edge), boxed(from(-api.Max, -api.Max), from(api.Max, api.Max)))
}

// TestChangesOfOthers: of a variable that there is not nothing changes, whatever else is wrong.
func TestChangesOfOthers(t *testing.T) {
	for _, x := range some() {
		z := plain(x)
		for _, i := range odd() {
			if i < 1 || i > z.N {
				check(t, "P3.4: Forget", Forget(x, i), z)
				check(t, "P3.4: Set", Set(x, i, from(2, 3)), z)
				check(t, "P3.4: Set to none", Set(x, i, from(1, 0)), z)
			}
			for _, j := range odd() {
				if i < 1 || i > z.N || j < 1 || j > z.N {
					check(t, "P3.4: Copy", Copy(x, i, j, 1), z)
					check(t, "P3.4: Copy, too far", Copy(x, i, j, math.MinInt), z)
				}
				if i < 0 || i > z.N || j < 0 || j > z.N {
					check(t, "P3.4: Guard", Guard(x, i, j, -1), z)
				}
			}
		}
	}
}

func TestChangesTold(t *testing.T) {
	z := Guard(Guard(Top(2), 1, 0, 5), 2, 1, -3)
	if s := Span(z, 2); s != from(-api.Max, 2) {
		t.Error("P3.4: the chapter's example:", s)
	}
	both := boxed(from(0, 3), from(10, 20))
	check(t, "P3.4: Copy", Copy(both, 1, 2, 5), Zone{N: 2, D: []int{0, -15, -10, 25, 0, 5, 20, -5, 0}})
	check(t, "P3.4: Copy to itself", Copy(both, 2, 2, -10), boxed(from(0, 3), from(0, 10)))
	check(t, "P3.4: Copy to the end", Copy(both, 2, 2, api.Max-15), boxed(from(0, 3), from(api.Max-5, api.Max)))
	check(t, "P3.4: Copy of what goes", Copy(both, 1, 2, api.Max-15), Guard(Copy(boxed(from(0, 3), from(10, 15)), 1, 2, api.Max-15), 2, 0, 15))
	check(t, "P3.4: Copy across all", Copy(Top(2), 1, 2, 2*api.Max), boxed(from(api.Max, api.Max), from(-api.Max, -api.Max)))
	check(t, "P3.4: Copy across all, to itself", Copy(Top(1), 1, 1, -2*api.Max), boxed(from(-api.Max, -api.Max)))
	check(t, "P3.4: Copy beyond all", Copy(Top(2), 1, 2, 2*api.Max+1), Zone{N: 2})
	check(t, "P3.4: Copy beyond all, to itself", Copy(Top(1), 1, 1, -2*api.Max-1), Zone{N: 1})
	check(t, "P3.4: Set", Set(Guard(both, 1, 2, -20), 1, from(7, 9)), boxed(from(7, 9), from(20, 20)))
	check(t, "P3.4: Set to none", Set(both, 1, from(1, 0)), Zone{N: 2})
	check(t, "P3.4: Set to what is not right", Set(both, 1, from(0, api.Max+1)), Zone{N: 2})
}

// TestWrongIsClosed: each call takes a zone that is not right as its Close.
func TestWrongIsClosed(t *testing.T) {
	l, right := some(), plains(some())
	for _, a := range wrong() {
		x := plain(a)
		for i, b := range l {
			y := right[i]
			for _, l := range [][2]map[string]Zone{{made(a, b), made(x, y)}, {made(b, a), made(y, x)}} {
				for what, z := range l[0] {
					check(t, "P3.1 to P3.4: "+what, z, l[1][what])
					if !rightByWords(z) {
						t.Fatal("P3.1 to P3.4: not right:", what, a, b, z)
					}
				}
			}
			if Leq(a, b) != Leq(x, y) || Leq(b, a) != Leq(y, x) || Same(a, b) != Same(x, y) || Text(a) != Text(x) {
				t.Fatal("P3.1, P3.2: Leq, Same or Text:", a, b)
			}
		}
	}
}

// TestMemory: what is handed in stays as it was, and shares nothing with what comes out.
func TestMemory(t *testing.T) {
	own := func(z Zone) Zone {
		d := slices.Grow(slices.Clone(z.D), 64)
		return Zone{N: z.N, D: d}
	}
	for _, x := range some() {
		for _, y := range []Zone{Top(x.N), Bottom(x.N), x} {
			a, b := own(x), own(y)
			for what, z := range made(a, b) {
				for k := range z.D[:cap(z.D)] {
					z.D[:cap(z.D)][k] = 99
				}
				if !alike(a, x) || !alike(b, y) {
					t.Fatal("R5, R6:", what, "changes or shares what it was given:", x, y)
				}
			}
			Leq(a, b)
			Same(a, b)
			if Right(a); !alike(a, x) || !alike(b, y) {
				t.Fatal("R5: changed:", x, y)
			}
		}
	}
	steps := []int{8, -3, 5, math.MinInt}
	given := slices.Clone(steps)
	Widen(boxed(from(0, 3)), boxed(from(-1, 4)), steps)
	if !slices.Equal(steps, given) {
		t.Error("R5: Widen has changed its steps:", steps)
	}
}

// TestBoundsAreReached: some point of a right zone comes up to each of its bounds, so that zones with the same points have the same bounds.
func TestBoundsAreReached(t *testing.T) {
	r := row(10)
	for round := range 4000 {
		z := Close(sparse(&r, round%7, [][]int{near0(), farOut()}[round%2]))
		if len(z.D) == 0 {
			continue
		}
		m := z.N + 1
		for k, b := range z.D {
			i, j := k/m, k%m
			p := make([]int, m)
			for v := range p {
				p[v] = z.D[v*m+j] - z.D[j]
			}
			if !Has(z, p[1:]) || p[i]-p[j] != b {
				t.Fatal("P3.5: no point comes up to the bound of", i, j, "in", z, ":", p)
			}
		}
	}
}

// TestSamePointsSameZone: zones that are come by in other ways, but have the same points, are the same.
func TestSamePointsSameZone(t *testing.T) {
	r := row(12)
	for round := range 2000 {
		n := round%3 + 1
		a, b := small(&r, n, 2), small(&r, n, 2)
		all := points(n, upTo(2))
		same := len(chosen(all, func(p []int) bool { return Has(a, p) != Has(b, p) })) == 0
		if Same(a, b) != same {
			t.Fatal("P3.5: Same is not", same, "of", a, b)
		}
		// Guards, in another order, and twice.
		x, y := Top(n), Top(n)
		for k, d := range a.D {
			x = Guard(x, k/(n+1), k%(n+1), d)
			back := len(a.D) - 1 - k
			y = Guard(Guard(y, back/(n+1), back%(n+1), a.D[back]), back/(n+1), back%(n+1), a.D[back]+1)
		}
		if len(a.D) > 0 && (!alike(x, a) || !alike(y, a)) {
			t.Fatal("P3.5: guards tell", x, y, "not", a)
		}
	}
}
