package leaf

import (
	"math"
	"slices"
	"strconv"
	"testing"

	"helmsman/api"
	"helmsman/bound"
	"helmsman/span"
	"helmsman/zone"
)

// model is a table by the chapter's words: a list that is looked through from its start.
type model struct {
	n, limit int
	held     []zone.Zone
}

func newModel(n, limit int) *model {
	return &model{n: n, limit: limit, held: []zone.Zone{zone.Bottom(n), zone.Top(n)}}
}

func (m *model) find(z zone.Zone) (int, bool) {
	if z.N != m.n {
		return 0, false
	}
	if len(z.D) == 0 {
		return 0, true
	}
	for id, h := range m.held {
		if alike(h, zone.Close(z)) {
			return id, true
		}
	}
	return 0, false
}

func (m *model) put(z zone.Zone) (int, api.Errno) {
	if z.N != m.n {
		return 0, api.ErrArg
	}
	if id, is := m.find(z); is {
		return id, api.OK
	}
	if len(m.held) == m.limit {
		return 0, api.ErrLeafFull
	}
	m.held = append(m.held, zone.Close(z))
	return len(m.held) - 1, api.OK
}

func (m *model) has(id int) bool { return id >= 0 && id < len(m.held) }

func (m *model) both(a, b int, f func(x, y zone.Zone) zone.Zone) (int, api.Errno) {
	if !m.has(a) || !m.has(b) {
		return 0, api.ErrArg
	}
	return m.put(f(m.held[a], m.held[b]))
}

// alike tells whether two zones have one N and the same bounds, as they lie there.
func alike(a, b zone.Zone) bool { return a.N == b.N && slices.Equal(a.D, b.D) }

// is holds what a call told against what it was to tell.
func is(t *testing.T, what string, id int, e api.Errno, wantId int, wantE api.Errno) {
	t.Helper()
	if id != wantId || e != wantE {
		t.Fatal(what, "tells", id, int(e), "not", wantId, int(wantE))
	}
}

// agree holds all that a table tells of what it holds against the model.
func agree(t *testing.T, x *Table, m *model) {
	t.Helper()
	if x.N() != m.n || x.Len() != len(m.held) {
		t.Fatal("P4.1: N and Len are", x.N(), x.Len(), "not", m.n, len(m.held))
	}
	for id, z := range m.held {
		if !alike(x.Get(id), z) {
			t.Fatal("P4.1, P4.3: Get of", id, "is", x.Get(id), "not", z)
		}
		if found, is := x.Find(z); found != id || !is {
			t.Fatal("P4.1, P4.3: Find of", z, "is", found, is, "not", id)
		}
	}
	for _, id := range none(len(m.held)) {
		if !alike(x.Get(id), zone.Bottom(m.n)) {
			t.Fatal("P4.1: Get of no id:", id, x.Get(id))
		}
	}
}

// none are ids that there are not, where so many zones are held.
func none(held int) []int {
	return []int{-1, -2, held, held + 1, math.MinInt, math.MaxInt, 1 << 32, -1 << 32}
}

// must is a new table, where one may be.
func must(t *testing.T, n, limit int) *Table {
	t.Helper()
	x, e := New(n, limit)
	if e != api.OK || x == nil {
		t.Fatal("P4.1: New of", n, limit, "tells", int(e))
	}
	return x
}

func from(low, high int) span.Span { return span.Span{Low: low, High: high} }

// box is a zone of one variable, which is in a span.
func box(low, high int) zone.Zone { return zone.Set(zone.Top(1), 1, from(low, high)) }

// right are zones of n variables that are right, some of them twice.
func right(n int) []zone.Zone {
	l := []zone.Zone{zone.Top(n), zone.Bottom(n)}
	for i := 1; i <= n; i++ {
		l = append(l, zone.Set(zone.Top(n), i, from(0, 3)), zone.Set(zone.Top(n), i, from(-i, 9)), zone.Guard(zone.Top(n), i, i%n+1, i-3), zone.Guard(zone.Top(n), i, 0, api.Max-1))
	}
	if n > 0 {
		z := zone.Set(zone.Set(zone.Top(n), 1, from(5, 5)), n, from(5, 5))
		l = append(l, z, zone.Guard(zone.Guard(zone.Top(n), 1, 0, 0), 0, n, 0), zone.Copy(z, n, 1, 0), z)
	}
	return l
}

// odd are zones of n variables that are not right, or are the bottom in other ways, and zones of another N.
func odd(n int) []zone.Zone {
	cells := (n + 1) * (n + 1)
	slack := zone.Top(n)
	for k := range slack.D {
		slack.D[k] = bound.None
	}
	more := zone.Top(n)
	more.D[0] = 7
	l := []zone.Zone{
		{N: n, D: []int{}}, {N: n, D: make([]int, cells)}, {N: n, D: make([]int, cells+1)}, {N: n, D: make([]int, cells-1)},
		{N: n, D: slices.Repeat([]int{-1}, cells)}, {N: n, D: slices.Repeat([]int{4}, cells)}, {N: n, D: slices.Repeat([]int{math.MaxInt}, cells)}, {N: n, D: slices.Repeat([]int{math.MinInt}, cells)},
		slack, more,
	}
	return append(l, others(n)...)
}

// others are zones of an N other than n, some of them of one that may not be.
func others(n int) []zone.Zone {
	var l []zone.Zone
	for _, m := range []int{-1, 0, 1, 2, 3, 6, 7, math.MinInt, math.MaxInt, n + 1, n - 1, n + 1<<32} {
		if m != n {
			l = append(l, zone.Zone{N: m}, zone.Zone{N: m, D: []int{0}}, zone.Zone{N: m, D: make([]int, (n+1)*(n+1))})
		}
	}
	return l
}

// limits are from the least one on.
func limits() []int { return []int{2, 3, 4, 7, 20, 1000, math.MaxInt} }

// each goes through tables of all N, and of several limits, with a model of each; they hold what is right and what is odd, as long as there is room.
func each(t *testing.T, f func(x *Table, m *model)) {
	t.Helper()
	for n := range api.MaxInts + 1 {
		for _, limit := range limits() {
			x, m := must(t, n, limit), newModel(n, limit)
			for i, z := range append(right(n), odd(n)...) {
				id, e := x.Put(z)
				wantId, wantE := m.put(z)
				is(t, "P4.1: Put of zone "+strconv.Itoa(i), id, e, wantId, wantE)
			}
			f(x, m)
		}
	}
}
