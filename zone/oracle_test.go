package zone

import (
	"math"
	"math/big"
	"slices"
	"testing"

	"helmsman/api"
	"helmsman/bound"
	"helmsman/span"
)

// row tells numbers that look picked at random, but are the same in every run.
type row uint64

func (r *row) next(n int) int {
	*r = *r*6364136223846793005 + 1442695040888963407
	return int(uint64(*r) >> 33 % uint64(n))
}

func (r *row) of(l []int) int { return l[r.next(len(l))] }

// near0 are bounds such that zones of a few numbers come of them, with some that are no bounds.
func near0() []int {
	return []int{-3, -2, -1, -1, 0, 0, 0, 1, 1, 2, 2, 3, 4, 6, bound.None, bound.None, bound.None, math.MaxInt, bound.Edge + 1}
}

// farOut are bounds at all edges that the chapter, or the arithmetic of ints, has.
func farOut() []int {
	l := []int{bound.None, bound.None, bound.None, math.MaxInt, math.MinInt, -bound.None, 1 << 40, -1 << 40}
	for _, c := range []int{0, api.Max, bound.Edge, -api.Max, -bound.Edge} {
		l = append(l, c-2, c-1, c, c+1, c+2)
	}
	return l
}

// bounds are n variables' bounds out of a list; on the diagonal 0 at most times, so that some points are left.
func bounds(r *row, n int, l []int) Zone {
	z := Zone{N: n, D: make([]int, (n+1)*(n+1))}
	for k := range z.D {
		z.D[k] = r.of(l)
		if k%(n+2) == 0 && r.next(8) > 0 {
			z.D[k] = r.next(3)
		}
	}
	return z
}

// sparse is like bounds, but most of them are none, so that most zones have points.
func sparse(r *row, n int, l []int) Zone {
	z := bounds(r, n, l)
	for k := range z.D {
		if r.next(3) > 0 {
			z.D[k] = bound.None
		}
	}
	return z
}

// small are right zones of n variables, all points of which are within -reach to reach.
func small(r *row, n, reach int) Zone {
	for {
		z := sparse(r, n, near0())
		for i := 1; i <= n; i++ {
			z.D[i] = min(z.D[i], reach)
			z.D[i*(n+1)] = min(z.D[i*(n+1)], reach)
		}
		if z = exact(z, bound.Near); len(z.D) > 0 || r.next(20) == 0 {
			return z
		}
	}
}

// wrong are zones that are not right: they have an N that may not be, too few or too many bounds, or are not closed.
func wrong() []Zone {
	l := []Zone{
		{N: 7}, {N: -1}, {N: math.MaxInt}, {N: math.MinInt}, {N: 7, D: make([]int, 64)}, {N: -1, D: []int{0}}, {N: -2, D: []int{0}},
		{N: math.MaxInt, D: []int{0, 0, 0, 0}}, {N: 1 << 32, D: []int{0}}, {N: 1<<32 - 1, D: []int{0}},
		{N: 0, D: []int{1}}, {N: 0, D: []int{-1}}, {N: 0, D: []int{0, 0}}, {N: 0, D: []int{math.MinInt}}, {N: 0, D: []int{math.MaxInt}},
		{N: 1, D: []int{0}}, {N: 1, D: []int{0, 0, 0}}, {N: 1, D: []int{0, 0, 0, 0, 0}}, {N: 2, D: []int{0, 0, 0, 0}}, {N: 2, D: make([]int, 8)},
		{N: 1, D: []int{0, 3, 5, 1}}, {N: 1, D: []int{2, 3, 5, 0}}, {N: 1, D: []int{0, -3, 2, 0}}, {N: 1, D: []int{0, api.Max + 1, 5, 0}}, {N: 1, D: []int{0, 3, bound.None, 0}},
		{N: 2, D: []int{0, 0, 0, 3, 0, 4, 3, 3, 0}}, {N: 2, D: []int{0, 0, 0, 3, 0, 3, 3, bound.None, 0}}, {N: 2, D: []int{0, 0, 0, 3, 0, math.MaxInt, 3, 3, 0}},
		{N: 2, D: []int{0, api.Max, api.Max, api.Max, 0, math.MinInt, api.Max, bound.Edge, 0}},
	}
	r := row(7)
	for n := range api.MaxInts + 1 {
		for range 4 {
			if z := sparse(&r, n, farOut()); !rightByWords(z) {
				l = append(l, z)
			}
		}
	}
	return l
}

// some are zones of 0 to MaxInts variables, right ones with points near 0 and far out, bottoms, and those that are not right.
func some() []Zone {
	l := wrong()
	r := row(11)
	for n := range api.MaxInts + 1 {
		l = append(l, Zone{N: n}, Zone{N: n, D: []int{}}, exact(bounds(&r, n, []int{bound.None}), bound.Near))
		for range 4 {
			l = append(l, exact(sparse(&r, n, near0()), bound.Near), exact(sparse(&r, n, farOut()), bound.Near))
		}
	}
	return l
}

// odd are numbers of variables that there are and are not.
func odd() []int { return []int{math.MinInt, -1, 0, 1, 2, 3, 4, 5, 6, 7, math.MaxInt} }

// plain is z as the chapter takes it: z, if it is right, else its Close.
func plain(z Zone) Zone {
	switch {
	case z.N < 0 || z.N > 6:
		return Zone{}
	case len(z.D) != (z.N+1)*(z.N+1):
		return Zone{N: z.N}
	}
	return exact(z, bound.Near)
}

// plains are zones, each as the chapter takes it.
func plains(l []Zone) []Zone {
	var out []Zone
	for _, z := range l {
		out = append(out, plain(z))
	}
	return out
}

// exact is the right zone of the points for which all bounds hold, each as near tells it, reckoned by numbers without an end. It takes sums of two bounds again and again, until each path of up to 16 is among them.
func exact(z Zone, near func(int) int) Zone {
	m := z.N + 1
	d := make([]*big.Int, m*m)
	for k := range d {
		d[k] = least(big.NewInt(int64(near(z.D[k]))), big.NewInt(int64(apart(k/m, k%m))))
	}
	for range 4 {
		next := slices.Clone(d)
		for k := range m * m * m {
			i, j, by := k/m/m, k/m%m, k%m
			next[i*m+j] = least(next[i*m+j], new(big.Int).Add(d[i*m+by], d[by*m+j]))
		}
		d = next
	}
	out := Zone{N: z.N}
	for i := range m {
		if d[i*m+i].Sign() < 0 {
			return out
		}
	}
	for _, n := range d {
		out.D = append(out.D, int(n.Int64()))
	}
	return out
}

func least(a, b *big.Int) *big.Int {
	if a.Cmp(b) <= 0 {
		return a
	}
	return b
}

func asItIs(n int) int { return n }

// apart is how far two variables are apart at most.
func apart(i, j int) int {
	switch {
	case i == j:
		return 0
	case i == 0 || j == 0:
		return 1152921504606846976
	}
	return 2305843009213693952
}

// rightByWords is what the chapter calls right, condition by condition.
func rightByWords(z Zone) bool {
	if z.N < 0 || z.N > 6 {
		return false
	}
	if len(z.D) == 0 {
		return true
	}
	m := z.N + 1
	if len(z.D) != m*m {
		return false
	}
	for k, b := range z.D {
		i, j := k/m, k%m
		if !bound.Right(b) || i == j && b != 0 || (i == 0 || j == 0) && b > api.Max {
			return false
		}
		for by := range m {
			if b > bound.Add(z.D[i*m+by], z.D[by*m+j]) {
				return false
			}
		}
	}
	return true
}

// points are all points of n numbers out of a list.
func points(n int, l []int) [][]int {
	all := [][]int{nil}
	for range n {
		var longer [][]int
		for _, p := range all {
			for _, x := range l {
				longer = append(longer, append(slices.Clone(p), x))
			}
		}
		all = longer
	}
	return all
}

// upTo are the numbers from -reach to reach.
func upTo(reach int) []int {
	var l []int
	for n := -reach; n <= reach; n++ {
		l = append(l, n)
	}
	return l
}

// ends are numbers at the ends of the whole ones, and around 0.
func ends() []int {
	return []int{-api.Max, -api.Max + 1, -2, -1, 0, 1, 3, api.Max - 1, api.Max}
}

// holds tells whether a point is in a zone that has as many bounds as it must, by the chapter's words.
func holds(z Zone, p []int) bool {
	q := append([]int{0}, p...)
	for k, b := range z.D {
		if i, j := k/(z.N+1), k%(z.N+1); bound.Near(b) != bound.None && q[i]-q[j] > bound.Near(b) {
			return false
		}
	}
	return len(z.D) > 0 && len(p) == z.N
}

// fits tells whether a point, with some whole number in i's place, is in a right zone.
func fits(z Zone, p []int, i int) bool {
	if len(z.D) == 0 {
		return false
	}
	q := append([]int{0}, p...)
	low, high := -api.Max, api.Max
	for k := range q {
		if k != i {
			low = max(low, q[k]-z.D[k*(z.N+1)+i])
			high = min(high, q[k]+z.D[i*(z.N+1)+k])
		}
	}
	if low > high {
		return false
	}
	return holds(z, with(p, i, low))
}

// with is a point with another number in i's place.
func with(p []int, i, n int) []int {
	q := slices.Clone(p)
	q[i-1] = n
	return q
}

// hull is the least right zone that has some points: each bound is the greatest difference of them.
func hull(n int, l [][]int) Zone {
	z := Zone{N: n}
	for at, p := range l {
		q := append([]int{0}, p...)
		if at == 0 {
			z.D = make([]int, len(q)*len(q))
		}
		for i := range q {
			for j := range q {
				k := i*len(q) + j
				if d := q[i] - q[j]; at == 0 || d > z.D[k] {
					z.D[k] = d
				}
			}
		}
	}
	return z
}

// chosen are the points of which f tells true.
func chosen(l [][]int, f func(p []int) bool) [][]int {
	var out [][]int
	for _, p := range l {
		if f(p) {
			out = append(out, p)
		}
	}
	return out
}

// alike tells whether two zones have one N and the same bounds, as they lie there.
func alike(a, b Zone) bool { return a.N == b.N && slices.Equal(a.D, b.D) }

func check(t *testing.T, what string, got, want Zone) {
	t.Helper()
	if !alike(got, want) {
		t.Fatal(what, "is", got, "not", want)
	}
}

// checkPoints holds a zone against what is asked of its points, at the ends of the whole numbers.
func checkPoints(t *testing.T, what string, got Zone, f func(p []int) bool) {
	t.Helper()
	if !rightByWords(got) {
		t.Fatal(what, "is not right:", got)
	}
	for _, p := range points(got.N, ends()) {
		if holds(got, p) != f(p) {
			t.Fatal(what, "is", got, "but at", p, "it is to be", f(p))
		}
	}
}

// made tells what each call that makes a zone of one or two makes; what they are given is put together from a and b.
func made(a, b Zone) map[string]Zone {
	return map[string]Zone{
		"Close": Close(a), "Join": Join(a, b), "Meet": Meet(a, b),
		"Widen": Widen(a, b, []int{-2, 5}), "Widen without steps": Widen(a, b, nil),
		"Forget": Forget(a, 1), "Forget of 0": Forget(a, 0), "Forget of 7": Forget(a, 7),
		"Set": Set(a, 1, span.Span{Low: -1, High: 4}), "Set to none": Set(a, 1, span.Span{Low: 4, High: 1}), "Set of 0": Set(a, 0, span.Span{Low: 1, High: 2}),
		"Copy": Copy(a, 1, 2, 3), "Copy to itself": Copy(a, 1, 1, -3), "Copy of 0": Copy(a, 1, 0, 3), "Copy, too far": Copy(a, 1, 1, math.MaxInt),
		"Guard": Guard(a, 1, 2, 1), "Guard of 0": Guard(a, 0, 1, -1), "Guard of 9": Guard(a, 1, 9, -1), "Guard of itself": Guard(a, 1, 1, 0),
	}
}
