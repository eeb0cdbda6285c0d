package leaf

import (
	"math"
	"slices"
	"strconv"
	"testing"

	"helmsman/api"
	"helmsman/bound"
	"helmsman/zone"
)

func TestNew(t *testing.T) {
	for n := range api.MaxInts + 1 {
		for _, limit := range limits() {
			x := must(t, n, limit)
			if x.N() != n || x.Len() != 2 || !alike(x.Get(0), zone.Bottom(n)) || !alike(x.Get(1), zone.Top(n)) {
				t.Error("P4.1: New of", n, limit, "holds", x.N(), x.Len(), x.Get(0), x.Get(1))
			}
		}
	}
	for _, y := range [][2]int{{-1, 5}, {7, 5}, {math.MinInt, 5}, {math.MaxInt, 5}, {1 << 32, 5}, {0, 1}, {0, 0}, {6, 1}, {1, -1}, {1, math.MinInt}, {1, math.MinInt + 2}, {-1, 1}, {7, 0}} {
		if x, e := New(y[0], y[1]); x != nil || e != api.ErrArg {
			t.Error("P4.1: New of", y, "tells", x, int(e))
		}
	}
}

// TestPutTold goes through the chapter's example, and what the words say of one variable.
func TestPutTold(t *testing.T) {
	x := must(t, 1, 5)
	for i, y := range []struct {
		z        zone.Zone
		id       int
		e        api.Errno
		held     int
		find     int
		findHeld bool
	}{
		{zone.Top(1), 1, api.OK, 2, 1, true},
		{box(0, 3), 2, api.OK, 3, 2, true},
		{box(0, 3), 2, api.OK, 3, 2, true},
		{zone.Zone{N: 1, D: []int{9, 0, 3, bound.None}}, 2, api.OK, 3, 2, true},
		{zone.Zone{N: 1, D: []int{0, math.MaxInt, bound.None, 0}}, 1, api.OK, 3, 1, true},
		{zone.Zone{N: 1, D: []int{0, -5, 4, 0}}, 0, api.OK, 3, 0, true},
		{zone.Zone{N: 1, D: []int{0, 0, 3}}, 0, api.OK, 3, 0, true},
		{zone.Zone{N: 1}, 0, api.OK, 3, 0, true},
		{zone.Zone{N: 1, D: []int{1, 1 << 61, 2, 3}}, 3, api.OK, 4, 3, true},
		{zone.Zone{}, 0, api.ErrArg, 4, 0, false},
		{zone.Top(2), 0, api.ErrArg, 4, 0, false},
		{zone.Zone{N: 2, D: []int{0, 0, 3, 0}}, 0, api.ErrArg, 4, 0, false},
		{zone.Zone{N: -1}, 0, api.ErrArg, 4, 0, false},
		{zone.Zone{N: 7}, 0, api.ErrArg, 4, 0, false},
		{box(2, 2), 4, api.OK, 5, 4, true},
		{box(2, 3), 0, api.ErrLeafFull, 5, 0, false},
		{zone.Top(2), 0, api.ErrArg, 5, 0, false},
		{box(2, 2), 4, api.OK, 5, 4, true},
		{box(3, 2), 0, api.OK, 5, 0, true},
	} {
		id, e := x.Put(y.z)
		is(t, "P4.1: Put of row "+strconv.Itoa(i), id, e, y.id, y.e)
		if found, held := x.Find(y.z); found != y.find || held != y.findHeld || x.Len() != y.held {
			t.Error("P4.1: row", i, "Find and Len:", found, held, x.Len())
		}
	}
}

// TestPutAndFind holds tables of all N against their models, for what is right and what is not.
func TestPutAndFind(t *testing.T) {
	each(t, func(x *Table, m *model) {
		agree(t, x, m)
		for _, z := range append(right(m.n), odd(m.n)...) {
			id, held := x.Find(z)
			wantId, wantHeld := m.find(z)
			if id != wantId || held != wantHeld {
				t.Fatal("P4.1: Find of", z, "in a table of", m.n, "is", id, held, "not", wantId, wantHeld)
			}
		}
		agree(t, x, m)
	})
}

// TestFindHoldsNothing: to look for a zone does not take it in.
func TestFindHoldsNothing(t *testing.T) {
	x := must(t, 1, 9)
	for range 2 {
		if id, held := x.Find(box(0, 3)); id != 0 || held || x.Len() != 2 {
			t.Fatal("P4.1: Find of what is not held:", id, held, x.Len())
		}
	}
}

// TestOtherN: an N that may not be is another one, even where the Close of such a zone is held.
func TestOtherN(t *testing.T) {
	for n := range api.MaxInts + 1 {
		x := must(t, n, 9)
		for _, z := range others(n) {
			id, e := x.Put(z)
			is(t, "P4.1: Put of another N", id, e, 0, api.ErrArg)
			if id, held := x.Find(z); id != 0 || held || x.Len() != 2 {
				t.Fatal("P4.1: Find of another N:", n, z, id, held, x.Len())
			}
		}
	}
}

// TestMany: a table that holds many zones tells them all apart.
func TestMany(t *testing.T) {
	const side = 64
	x := must(t, 2, 2+side*side)
	for round := range 2 {
		want := 2
		for i := range side {
			for j := range side {
				id, e := x.Put(zone.Guard(zone.Set(zone.Top(2), 1, from(-i, 0)), 1, 2, j-side/2))
				is(t, "P4.1, P4.3: Put, round "+strconv.Itoa(round), id, e, want, api.OK)
				want++
			}
		}
		if x.Len() != want {
			t.Error("P4.1: Len is", x.Len(), "not", want)
		}
	}
	id, e := x.Put(zone.Set(zone.Top(2), 1, from(1, 1)))
	is(t, "P4.1: Put of one too many", id, e, 0, api.ErrLeafFull)
}

// TestTextsThatRunTogether: zones whose bounds are written with the same digits, or signs, are told apart.
func TestTextsThatRunTogether(t *testing.T) {
	x := must(t, 1, 99)
	for i, y := range [][2]int{{1, 11}, {11, 1}, {1, 1}, {11, 11}, {111, 1}, {1, 111}, {-1, 1}, {-1, 11}, {1, -1}, {11, -1}, {0, 0}, {10, 0}, {0, 10}} {
		id, e := x.Put(zone.Zone{N: 1, D: []int{0, y[0], y[1], 0}})
		is(t, "P4.3: Put of row "+strconv.Itoa(i), id, e, i+2, api.OK)
	}
}

// both are the calls of two ids, with what zone's calls of these names tell.
func both() []struct {
	name string
	f    func(x *Table, a, b int) (int, api.Errno)
	z    func(a, b zone.Zone) zone.Zone
} {
	type table = *Table
	return []struct {
		name string
		f    func(x *Table, a, b int) (int, api.Errno)
		z    func(a, b zone.Zone) zone.Zone
	}{
		{"Join", table.Join, zone.Join},
		{"Meet", table.Meet, zone.Meet},
		{"Widen", func(x *Table, a, b int) (int, api.Errno) { return x.Widen(a, b, nil) }, func(a, b zone.Zone) zone.Zone { return zone.Widen(a, b, nil) }},
		{"Widen by steps", func(x *Table, a, b int) (int, api.Errno) { return x.Widen(a, b, []int{10, -6, 4}) }, func(a, b zone.Zone) zone.Zone { return zone.Widen(a, b, []int{10, -6, 4}) }},
	}
}

// TestTwo holds Join, Meet, Widen and Leq of all pairs of ids, and of some that there are not, against the model.
func TestTwo(t *testing.T) {
	each(t, func(x *Table, m *model) {
		first := len(m.held)
		ids := none(m.limit)
		for id := range first {
			ids = append(ids, id)
		}
		for _, a := range ids {
			for _, b := range ids {
				for _, c := range both() {
					id, e := c.f(x, a, b)
					wantId, wantE := m.both(a, b, c.z)
					is(t, "P4.2: "+c.name+" of "+strconv.Itoa(a)+" and "+strconv.Itoa(b), id, e, wantId, wantE)
				}
				if want := m.has(a) && m.has(b) && zone.Leq(m.held[a], m.held[b]); x.Leq(a, b) != want {
					t.Fatal("P4.2: Leq of", a, b, "is not", want)
				}
			}
		}
		agree(t, x, m)
	})
}

func TestTwoTold(t *testing.T) {
	x := must(t, 1, 6)
	for i, z := range []zone.Zone{box(0, 3), box(5, 9)} {
		id, e := x.Put(z)
		is(t, "P4.1: Put", id, e, i+2, api.OK)
	}
	for i, y := range []struct {
		f  func() (int, api.Errno)
		id int
		e  api.Errno
	}{
		{func() (int, api.Errno) { return x.Join(2, 3) }, 4, api.OK},
		{func() (int, api.Errno) { return x.Join(3, 2) }, 4, api.OK},
		{func() (int, api.Errno) { return x.Join(0, 3) }, 3, api.OK},
		{func() (int, api.Errno) { return x.Join(0, 0) }, 0, api.OK},
		{func() (int, api.Errno) { return x.Meet(2, 3) }, 0, api.OK},
		{func() (int, api.Errno) { return x.Meet(4, 3) }, 3, api.OK},
		{func() (int, api.Errno) { return x.Widen(2, 4, []int{9}) }, 4, api.OK},
		{func() (int, api.Errno) { return x.Widen(4, 2, nil) }, 4, api.OK},
		{func() (int, api.Errno) { return x.Widen(2, 4, []int{8}) }, 5, api.OK},
		{func() (int, api.Errno) { return x.Widen(3, 2, []int{-1}) }, 0, api.ErrLeafFull},
		{func() (int, api.Errno) { return x.Widen(3, 2, []int{-1, 0}) }, 4, api.OK},
		{func() (int, api.Errno) { return x.Join(2, 6) }, 0, api.ErrArg},
		{func() (int, api.Errno) { return x.Meet(-1, 0) }, 0, api.ErrArg},
		{func() (int, api.Errno) { return x.Widen(6, 6, nil) }, 0, api.ErrArg},
	} {
		id, e := y.f()
		is(t, "P4.2: row "+strconv.Itoa(i), id, e, y.id, y.e)
	}
	if !alike(x.Get(4), box(0, 9)) || !alike(x.Get(5), box(0, api.Max)) || x.Len() != 6 {
		t.Error("P4.2: held:", x.Get(4), x.Get(5), x.Len())
	}
	if !x.Leq(2, 4) || x.Leq(4, 2) || !x.Leq(4, 5) || !x.Leq(0, 2) || x.Leq(2, 0) || x.Leq(0, 6) || x.Leq(-1, 1) {
		t.Error("P4.2: Leq")
	}
}

// TestMap: f is asked once, of that zone; what it tells is put, whatever it is.
func TestMap(t *testing.T) {
	each(t, func(x *Table, m *model) {
		for id := range m.held {
			for _, z := range append(right(m.n), odd(m.n)...) {
				asked := 0
				got, e := x.Map(id, func(y zone.Zone) zone.Zone {
					asked++
					if !alike(y, m.held[id]) {
						t.Fatal("P4.2: Map of", id, "asks of", y, "not of", m.held[id])
					}
					return z
				})
				want, wantE := m.put(z)
				is(t, "P4.2: Map", got, e, want, wantE)
				if asked != 1 {
					t.Fatal("P4.2: Map asks", asked, "times")
				}
			}
		}
		agree(t, x, m)
	})
}

func TestMapTold(t *testing.T) {
	x := must(t, 1, 4)
	x.Put(box(0, 3))
	up := func(z zone.Zone) zone.Zone { return zone.Copy(z, 1, 1, 1) }
	for i, y := range []struct {
		a  int
		f  func(z zone.Zone) zone.Zone
		id int
		e  api.Errno
	}{
		{2, up, 3, api.OK}, {3, up, 0, api.ErrLeafFull}, {0, up, 0, api.OK}, {2, up, 3, api.OK},
		{1, func(z zone.Zone) zone.Zone { return z }, 1, api.OK},
		{1, func(z zone.Zone) zone.Zone { return zone.Zone{N: 1} }, 0, api.OK},
		{1, func(z zone.Zone) zone.Zone { return zone.Zone{} }, 0, api.ErrArg},
		{1, nil, 0, api.ErrArg}, {4, nil, 0, api.ErrArg}, {-1, nil, 0, api.ErrArg},
	} {
		id, e := x.Map(y.a, y.f)
		is(t, "P4.2: Map of row "+strconv.Itoa(i), id, e, y.id, y.e)
	}
	if !alike(x.Get(3), box(1, 4)) || x.Len() != 4 {
		t.Error("P4.2: Map holds", x.Get(3), x.Len())
	}
	for _, a := range none(4) {
		id, e := x.Map(a, func(z zone.Zone) zone.Zone {
			t.Error("P4.2: Map asks of no id:", a)
			return z
		})
		is(t, "P4.2: Map of no id", id, e, 0, api.ErrArg)
	}
}

// TestMapPanics: an f that panics is a wrong one; the table is what it was.
func TestMapPanics(t *testing.T) {
	x, m := must(t, 2, 9), newModel(2, 9)
	for _, f := range []func(z zone.Zone) zone.Zone{
		func(z zone.Zone) zone.Zone { panic("f") },
		func(z zone.Zone) zone.Zone { panic(api.ErrOver) },
		func(z zone.Zone) zone.Zone { panic(nil) },
		func(z zone.Zone) zone.Zone { return zone.Zone{N: 2, D: z.D[:z.N+99]} },
	} {
		id, e := x.Map(1, f)
		is(t, "R1: Map of an f that panics", id, e, 0, api.ErrArg)
		agree(t, x, m)
	}
}

// TestMapWithin: f may ask the table itself.
func TestMapWithin(t *testing.T) {
	x := must(t, 1, 9)
	id, e := x.Map(1, func(z zone.Zone) zone.Zone {
		x.Put(box(0, 1))
		x.Map(2, func(z zone.Zone) zone.Zone { return box(0, 2) })
		return box(0, 3)
	})
	is(t, "P4.2: Map", id, e, 4, api.OK)
	for i, z := range []zone.Zone{box(0, 1), box(0, 2), box(0, 3)} {
		if !alike(x.Get(i+2), z) {
			t.Error("P4.2: held:", i+2, x.Get(i+2))
		}
	}
}

func TestCopy(t *testing.T) {
	each(t, func(x *Table, m *model) {
		c := x.Copy()
		agree(t, c, m)
		for id := range m.held {
			if e := x.Copy().Get(id); !alike(e, m.held[id]) {
				t.Fatal("P4.1: Copy holds", e)
			}
		}
		if len(m.held) == m.limit && m.n > 0 {
			id, e := c.Put(zone.Guard(zone.Top(m.n), 1, 0, 1234))
			is(t, "P4.1: Put into the Copy of a full table", id, e, 0, api.ErrLeafFull)
		}
	})
}

// TestCopyApart: what comes into one of both later is not in the other.
func TestCopyApart(t *testing.T) {
	x := must(t, 1, 6)
	x.Put(box(0, 3))
	c := x.Copy()
	for i, y := range []struct {
		into *Table
		z    zone.Zone
	}{{x, box(1, 1)}, {c, box(2, 2)}, {c, box(1, 1)}, {x, box(4, 4)}} {
		id, e := y.into.Put(y.z)
		is(t, "P4.1: Put into table or Copy "+strconv.Itoa(i), id, e, 3+i/2, api.OK)
	}
	agree(t, x, &model{n: 1, limit: 6, held: []zone.Zone{zone.Bottom(1), zone.Top(1), box(0, 3), box(1, 1), box(4, 4)}})
	agree(t, c, &model{n: 1, limit: 6, held: []zone.Zone{zone.Bottom(1), zone.Top(1), box(0, 3), box(2, 2), box(1, 1)}})
	for i, y := range []*Table{x, c} {
		if _, held := y.Find([]zone.Zone{box(2, 2), box(4, 4)}[i]); held {
			t.Error("P4.1: Find tells what the other one holds:", i)
		}
	}
}

// TestApart: two ids are the same just if their zones are; what there was once stays so, whatever comes.
func TestApart(t *testing.T) {
	each(t, func(x *Table, m *model) {
		before := slices.Clone(m.held)
		for a := range before {
			for _, c := range both() {
				id, e := c.f(x, a, len(before)-1-a)
				if e == api.OK && !zone.Same(x.Get(id), c.z(before[a], before[len(before)-1-a])) {
					t.Fatal("P4.2:", c.name, "tells the id of", x.Get(id))
				}
			}
		}
		for id, z := range before {
			if !alike(x.Get(id), z) {
				t.Fatal("P4.3: zone", id, "was", z, "and is", x.Get(id))
			}
		}
		for a := range x.Len() {
			for b := range x.Len() {
				if zone.Same(x.Get(a), x.Get(b)) != (a == b) || !zone.Right(x.Get(a)) {
					t.Fatal("P4.3: ids", a, b, "are of", x.Get(a), x.Get(b))
				}
			}
		}
	})
}

// TestMemory: what is handed in stays as it was, and nothing that is written into it, or into what comes out, later changes the table.
func TestMemory(t *testing.T) {
	spoil := func(z zone.Zone) {
		for k := range z.D[:cap(z.D)] {
			z.D[:cap(z.D)][k] = -99
		}
	}
	x, m := must(t, 2, 99), newModel(2, 99)
	for _, z := range append(right(2), odd(2)...) {
		given := zone.Zone{N: z.N, D: slices.Grow(slices.Clone(z.D), 64)}
		x.Find(given)
		x.Put(given)
		if !alike(given, z) {
			t.Fatal("R5: changed:", z, given)
		}
		m.put(z)
		spoil(given)
		agree(t, x, m)
	}
	c := x.Copy()
	for id := range m.held {
		spoil(x.Get(id))
		var kept zone.Zone
		made := zone.Guard(m.held[id], 1, 2, 3)
		x.Map(id, func(z zone.Zone) zone.Zone {
			kept = z
			spoil(z)
			return made
		})
		m.put(made)
		spoil(kept)
		spoil(made)
		spoil(c.Get(id))
		agree(t, x, m)
	}
	spoil(x.Get(-1))
	agree(t, x, m)
	agree(t, c, &model{n: 2, limit: 99, held: m.held[:c.Len()]})
	steps := []int{9, -2, math.MinInt, 4}
	given := slices.Clone(steps)
	for a := range x.Len() {
		x.Widen(a, 2, steps)
	}
	if !slices.Equal(steps, given) {
		t.Error("R5: Widen has changed its steps:", steps)
	}
}
