package zone

import (
	"math"
	"slices"
	"testing"

	"helmsman/api"
	"helmsman/bound"
	"helmsman/span"
)

// widenByWords is what P3.3 asks of two right zones, word by word.
func widenByWords(a, b Zone, steps []int) Zone {
	switch {
	case a.N != b.N:
		return Zone{}
	case len(b.D) == 0 || len(a.D) > 0 && below(b, a):
		return a
	case len(a.D) == 0:
		return b
	}
	m := a.N + 1
	out := Zone{N: a.N, D: slices.Repeat([]int{bound.None}, m*m)}
	first := map[int]bool{}
	for i := 1; i < m; i++ {
		was := span.Span{Low: -a.D[i], High: a.D[i*m]}
		now := span.Widen(was, span.Span{Low: -b.D[i], High: b.D[i*m]}, steps)
		first[i] = was != now
		out.D[i], out.D[i*m] = -now.Low, now.High
	}
	moved := map[int]bool{}
	for i := 1; i < m; i++ {
		for j := 1; j < m; j++ {
			if first[i] || !first[j] && b.D[i*m+j] > a.D[i*m+j] || !first[j] && b.D[j*m+i] > a.D[j*m+i] {
				moved[i] = true
			}
		}
	}
	for i := 1; i < m; i++ {
		for j := 1; j < m; j++ {
			if !moved[i] && !moved[j] {
				out.D[i*m+j] = a.D[i*m+j]
			}
		}
	}
	return exact(out, bound.Near)
}

// below tells whether no bound of a is above that of b.
func below(a, b Zone) bool {
	for k := range a.D {
		if a.D[k] > b.D[k] {
			return false
		}
	}
	return true
}

func someSteps() [][]int {
	return [][]int{
		nil, {}, {5}, {-2, 4}, {8, -8, 2, -2, 2}, {0, 1, 2, 3, 4, 5},
		{-api.Max, api.Max}, {api.Max + 1, math.MaxInt, math.MinInt}, {api.Max - 1, -api.Max + 1, 1 << 40},
	}
}

func TestWidenTold(t *testing.T) {
	// Variable 1 is not above variable 2, both from 0 to 3.
	ordered := Zone{N: 2, D: []int{0, 0, 0, 3, 0, 0, 3, 3, 0}}
	for i, x := range []struct{ a, b, want Zone }{
		{ordered, ordered, ordered},
		{ordered, Zone{N: 2}, ordered},
		{Zone{N: 2}, ordered, ordered},
		{Zone{N: 2}, Zone{N: 2}, Zone{N: 2}},
		{ordered, boxed(from(1, 1), from(2, 2)), ordered},
		// Its span has not moved, but the two are farther apart.
		{ordered, boxed(from(3, 3), from(0, 0)), boxed(from(0, 3), from(0, 3))},
		// One span has moved, to a step; what binds it to the other one is gone, though it would hold.
		{ordered, boxed(from(0, 3), from(3, 5)), boxed(from(0, 3), from(0, 8))},
		{ordered, boxed(from(0, 3), from(3, 9)), boxed(from(0, 3), from(0, api.Max))},
		{ordered, boxed(from(-1, 3), from(3, 3)), boxed(from(-8, 3), from(0, 3))},
		{ordered, boxed(from(-9, 9), from(-9, 9)), boxed(from(-api.Max, api.Max), from(-api.Max, api.Max))},
		{boxed(from(0, 3)), boxed(from(4, 4)), boxed(from(0, 8))},
		{boxed(from(0, 3)), boxed(from(8, 8)), boxed(from(0, 8))},
		{boxed(), boxed(), boxed()},
		{Zone{N: 0}, boxed(), boxed()},
	} {
		if got := Widen(x.a, x.b, []int{8, -8}); !alike(got, x.want) {
			t.Error("P3.3: row", i, "is", got, "not", x.want)
		}
	}
}

// TestWidenAtOnce: that two are farther apart is looked at for all, by their spans alone: one that has moved so still moves others.
func TestWidenAtOnce(t *testing.T) {
	cube := boxed(from(0, 3), from(0, 3), from(0, 3), from(0, 3))
	chain := Guard(Guard(Guard(cube, 1, 2, 0), 2, 3, 0), 3, 4, 0)
	loose := Guard(Guard(Guard(cube, 1, 4, 0), 2, 4, 0), 3, 4, 0)
	check(t, "P3.3: Widen", Widen(chain, loose, nil), cube)
	// 1 and 2 alone are farther apart; 3 and 4 are bound still.
	pair := Guard(Guard(cube, 1, 2, 0), 3, 4, 0)
	check(t, "P3.3: Widen", Widen(pair, Guard(cube, 3, 4, 0), nil), Guard(cube, 3, 4, 0))
	// The span of 1 has moved, and it is farther from 2: that moves 2 not.
	three := boxed(from(0, 3), from(0, 3), from(0, 3))
	a := Guard(Guard(three, 1, 2, 0), 2, 3, 0)
	b := Guard(boxed(from(4, 4), from(0, 3), from(0, 3)), 2, 3, 0)
	check(t, "P3.3: Widen", Widen(a, b, []int{6}), Guard(boxed(from(0, 6), from(0, 3), from(0, 3)), 2, 3, 0))
}

func TestWidenByWords(t *testing.T) {
	r := row(13)
	zone := func(n int) Zone {
		if r.next(3) == 0 {
			return exact(sparse(&r, n, farOut()), bound.Near)
		}
		return small(&r, n, 4)
	}
	for round := range 6000 {
		n := round%6 + 1
		a, b := zone(n), zone(n)
		if r.next(2) == 0 {
			b = Join(a, b)
		}
		steps := someSteps()[round%len(someSteps())]
		got := Widen(a, b, steps)
		check(t, "P3.3: Widen", got, widenByWords(a, b, steps))
		if !rightByWords(got) || !Leq(a, got) || !Leq(b, got) {
			t.Fatal("P3.3: Widen leaves something out, or is not right:", a, b, got)
		}
	}
	l, right := some(), plains(some())
	for i, a := range l {
		for j, b := range l {
			check(t, "P3.3: Widen", Widen(a, b, []int{3, -3}), widenByWords(right[i], right[j], []int{3, -3}))
		}
	}
}

// most is how often a zone of n variables, widened again and again, changes at most: once from the bottom, twice a variable for each step and for no end, and once for each two variables.
func most(n int, steps []int) int { return 1 + 2*n*(1+len(steps)) + n/2 }

// changes tells how often z changes, widened by each of l in turn.
func changes(t *testing.T, z Zone, l []Zone, steps []int) int {
	t.Helper()
	count := 0
	for _, b := range l {
		w := Widen(z, b, steps)
		if !Leq(z, w) || !Leq(b, w) {
			t.Fatal("P3.3: Widen leaves something out:", z, b, w)
		}
		if !Same(z, w) {
			count++
		}
		z = w
	}
	return count
}

// growing are zones that each let some variable, or two, a bit farther out than the one ahead.
func growing(n int) []Zone {
	l := []Zone{Bottom(n)}
	add := func(reach, slack int) {
		z := Top(n)
		for i := 1; i <= n; i++ {
			z = Set(z, i, from(-reach, reach))
		}
		for i := 1; i < n; i++ {
			z = Guard(Guard(z, i, i+1, slack), i+1, i, slack)
		}
		l = append(l, z)
	}
	for k := range 12 {
		add(k, 0)
		add(k, 1)
		add(k, k)
		add(k, 2*k)
	}
	for reach := 1 << 10; reach < api.Max; reach <<= 5 {
		add(reach, 3)
		add(reach+1, reach)
	}
	add(api.Max, 3)
	return append(l, Top(n), Bottom(n))
}

// crawling are points that drift off, one variable after the other, so that each is new.
func crawling(n int) []Zone {
	var l []Zone
	for k := range 60 {
		p := boxed(slices.Repeat([]span.Span{from(k/n, k/n)}, n)...)
		l = append(l, Set(p, k%n+1, from(-k, -k)), Set(p, n-k%n, from(k+1, k+1)), p)
	}
	return l
}

func TestWidenComesToRest(t *testing.T) {
	r := row(14)
	for n := 1; n <= 4; n++ {
		var mixed []Zone
		for range 120 {
			mixed = append(mixed, small(&r, n, 1+r.next(9)))
		}
		turned := growing(n)
		slices.Reverse(turned)
		for _, steps := range someSteps() {
			for _, start := range []Zone{Bottom(n), mixed[0], mixed[1], boxed(slices.Repeat([]span.Span{from(0, 0)}, n)...), Top(n)} {
				for _, l := range [][]Zone{growing(n), turned, mixed, crawling(n), append(mixed, growing(n)...)} {
					if c := changes(t, start, l, steps); c > most(n, steps) {
						t.Error("P3.5: widened with", steps, "from", start, "it changes", c, "times, not at most", most(n, steps))
					}
				}
			}
		}
	}
}

// TestWidenGrowsAway: a loop that counts on and on, with what stands joined to what comes, as the layers above go through it.
func TestWidenGrowsAway(t *testing.T) {
	for _, steps := range someSteps() {
		z := Close(boxed(from(0, 0), from(0, 0), from(7, 7)))
		rounds := 0
		for ; ; rounds++ {
			next := Join(z, Copy(Copy(z, 1, 1, 1), 2, 2, -2))
			if Leq(next, z) {
				break
			}
			if rounds > most(3, steps) {
				t.Fatal("P3.5: it does not come to rest:", steps, z)
			}
			z = Widen(z, next, steps)
		}
		if Span(z, 1) != from(0, api.Max) || Span(z, 2) != from(-api.Max, 0) || Span(z, 3) != from(7, 7) {
			t.Error("P3.5: it comes to rest at", z)
		}
	}
}
