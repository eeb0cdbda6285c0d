package dia

import (
	"errors"
	"math"
	"slices"
	"strconv"
	"testing"

	"helmsman/api"
	"helmsman/bdd"
	"helmsman/leaf"
	"helmsman/node"
	"helmsman/span"
	"helmsman/zone"
)

// box is a zone of one variable, which is from low to high.
func box(low, high int) zone.Zone {
	return zone.Set(zone.Top(1), 1, span.Span{Low: low, High: high})
}

// must is a space, where one may be.
func must(t *testing.T, n, limit, leaves int) *Space {
	t.Helper()
	s, e := New(n, limit, leaves)
	if s == nil || e != nil {
		t.Fatal("P10.1: New of", n, limit, leaves, "is", s, e)
	}
	return s
}

// told fails, if a call told an error; it is the diagram that was told.
func told(t *testing.T) func(d int, e error) int {
	t.Helper()
	return func(d int, e error) int {
		t.Helper()
		if e != nil {
			t.Fatal("P10: the error is", e)
		}
		return d
	}
}

// has fails, if a diagram has other zones for the first numbers' bits than these.
func has(t *testing.T, call string, s *Space, d int, want ...zone.Zone) {
	t.Helper()
	for bits, z := range want {
		if got := s.At(d, uint(bits)); !alikeZones(got, z) {
			t.Error(call, "is of", bits, zone.Text(got), "not", zone.Text(z))
		}
	}
}

func TestNew(t *testing.T) {
	for n := -2; n <= 9; n++ {
		for _, limit := range []int{math.MinInt, -1, 0, 1, 77, math.MaxInt} {
			for _, leaves := range []int{math.MinInt, -1, 0, 1, 2, 3, 1000, math.MaxInt} {
				s, e := New(n, limit, leaves)
				if _, no := leaf.New(n, leaves); no != api.OK {
					if s != nil || e != error(api.ErrArg) || no != api.ErrArg {
						t.Fatal("P10.1: New of", n, limit, leaves, "is", s, e)
					}
					continue
				}
				if e != nil || s == nil || s.Table().N() != n || s.Table().Len() != 2 || s.Mgr().Arena().Len() != 0 || s.Mgr().Arena().Limit() != max(limit, 0) {
					t.Fatal("P10.1: New of", n, limit, leaves, "is", s, e)
				}
			}
		}
	}
	for _, n := range []int{math.MinInt, math.MaxInt, 1 << 32, 1<<32 + 2} {
		if s, e := New(n, 9, 9); s != nil || e != error(api.ErrArg) {
			t.Error("P10.1: New of", n, "is", s, e)
		}
	}
}

// TestLimit: so many nodes, and zones, are held, and no more.
func TestLimit(t *testing.T) {
	s := must(t, 1, 2, 4)
	for k := range 4 {
		d, e := s.Leaf(box(k, k))
		if k >= 2 {
			isLeafFull(t, "Leaf", d, e)
		} else if d != node.Term(k+2) || e != nil {
			t.Error("P10.1: Leaf is", d, e)
		}
		d, e = s.Mgr().Var(k)
		if k >= 2 {
			isNodeFull(t, "Var", d, e)
		} else if d != k || e != nil {
			t.Error("P7.2: Var is", d, e)
		}
	}
}

// TestOwn: manager and table are the space's own, always, so that what is put there is there for it.
func TestOwn(t *testing.T) {
	s, other := must(t, 1, 9, 9), must(t, 1, 9, 9)
	m, x := s.Mgr(), s.Table()
	if m == nil || x == nil || m == other.Mgr() || x == other.Table() || m.Arena() == other.Mgr().Arena() {
		t.Fatal("P10.1: two spaces have one manager, or one table, or none")
	}
	id, no := x.Put(box(0, 3))
	ref, e := m.Arena().Mk(4, node.Term(id), bdd.True)
	if no != api.OK || e != nil {
		t.Fatal("P4.1, P5.2:", int(no), e)
	}
	if !s.Is(ref) || other.Is(ref) || !s.Is(node.Term(id)) || other.Is(node.Term(id)) {
		t.Error("P10.1: what was put into arena and table is no diagram")
	}
	for bits := range uint(32) {
		want := box(0, 3)
		if bits>>4&1 == 1 {
			want = zone.Top(1)
		}
		if !alikeZones(s.At(ref, bits), want) {
			t.Error("P10.1: At of", bits, "is", s.At(ref, bits))
		}
	}
	y := told(t)(m.Var(4))
	if d := told(t)(s.Join(y, told(t)(s.Leaf(box(0, 3))))); d != ref || s.Mgr() != m || s.Table() != x || m.Arena().Len() != 2 || x.Len() != 3 {
		t.Error("P10.4: Join is", d, "not", ref)
	}
}

// TestChapter goes through the chapter's example.
func TestChapter(t *testing.T) {
	for n := range api.MaxInts + 1 {
		s := must(t, n, 2, 2)
		top, x := told(t)(s.Leaf(zone.Top(n))), told(t)(s.Mgr().Var(0))
		y := told(t)(s.Mgr().Not(x))
		c, d := told(t)(s.Cut(top, x)), told(t)(s.Cut(top, y))
		if j, e := s.Join(c, d); j != top || e != nil || top != bdd.True || c != x || d != y {
			t.Error("P10.2: Join of the example is", j, e, "of", c, d)
		}
		if d, e := s.Leaf(zone.Bottom(n)); d != bdd.False || e != nil {
			t.Error("P10.1: Leaf of the bottom is", d, e)
		}
	}
}

// stranger is a space with some diagrams, and nodes that lead to ids that there are not; and a diagram of booleans.
func stranger(t *testing.T, n, limit, leaves int) (s *Space, good, strange []int, x int) {
	t.Helper()
	s = must(t, n, limit, leaves)
	x = told(t)(s.Mgr().Var(3))
	id := 1
	if n > 0 {
		id = node.Value(told(t)(s.Leaf(zone.Guard(zone.Top(n), 1, 0, 5))))
	}
	mk := func(v, low, high int) int { return told(t)(s.Mgr().Arena().Mk(v, low, high)) }
	far := mk(5, bdd.True, node.Term(id+1))
	most := mk(5, node.Term(1<<40), bdd.False)
	below := mk(2, x, far)
	deep := mk(0, mk(1, most, bdd.True), below)
	mix := mk(2, node.Term(id), x)
	return s, []int{bdd.False, bdd.True, node.Term(id), x, mix}, []int{far, most, below, deep}, x
}

// wrongRefs are refs that the arena has not, and terminals of ids that there are not.
func wrongRefs(s *Space) []int {
	n, id := s.Mgr().Arena().Len(), s.Table().Len()
	return []int{n, n + 1, n + 1<<32, 1 << 40, math.MaxInt, node.Term(id), node.Term(id + 1), node.Term(id + 1<<32), -1 - (1 << 40), -2 - (1 << 40), -3 - (1 << 40), -1 << 62, math.MinInt, math.MinInt + 1}
}

// wrongVars are no variables.
func wrongVars() []int {
	return []int{-1, 12, 13, 64, 1<<32 + 3, 1 << 62, math.MaxInt, math.MinInt, math.MinInt + 3}
}

func TestIs(t *testing.T) {
	for _, n := range []int{0, 1, 6} {
		s, good, strange, _ := stranger(t, n, 50, 50)
		for _, d := range append(wrongRefs(s), strange...) {
			if s.Is(d) {
				t.Error("P10.1: Is of", d, "is true")
			}
			for _, bits := range []uint{0, 1, 4, 1 << 5, 4095, math.MaxUint} {
				if z := s.At(d, bits); !alikeZones(z, zone.Bottom(n)) {
					t.Error("P10.1: At of", d, bits, "is", z)
				}
			}
		}
		for _, d := range good {
			if !s.Is(d) {
				t.Error("P10.1: Is of", d, "is false")
			}
		}
	}
}

// TestIsLater: what is none yet may be one, as soon as there is such a zone, or such a node.
func TestIsLater(t *testing.T) {
	s := must(t, 1, 20, 20)
	for k := 2; k < 12; k++ {
		ref := told(t)(s.Mgr().Arena().Mk(5, bdd.False, node.Term(k)))
		for range 2 {
			if s.Is(ref) || s.Is(node.Term(k)) || s.Is(ref+1) || s.Leq(ref, ref) {
				t.Fatal("P10.1: Is of", ref, "ahead of its zone")
			}
		}
		if d, e := s.Leaf(box(k, k)); d != node.Term(k) || e != nil {
			t.Fatal("P10.1: Leaf is", d, e)
		}
		if !s.Is(ref) || !s.Is(node.Term(k)) || !s.Leq(ref, ref) {
			t.Fatal("P10.1: Is of", ref, "behind its zone")
		}
		has(t, "P10.1: At", s, ref, zone.Bottom(1))
		if z := s.At(ref, 1<<5); !alikeZones(z, box(k, k)) {
			t.Fatal("P10.1: At is", z)
		}
	}
}

// TestAt: nothing hangs on bits beyond all variables, and what is told is the caller's own.
func TestAt(t *testing.T) {
	s := must(t, 1, 20, 20)
	x, y := told(t)(s.Mgr().Var(11)), told(t)(s.Leaf(box(2, 8)))
	d := told(t)(s.Cut(y, x))
	for range 2 {
		for _, more := range []uint{0, 1 << 12, 1 << 63, math.MaxUint &^ 4095} {
			if z := s.At(d, 1<<11|5|more); !alikeZones(z, box(2, 8)) {
				t.Error("P10.1: At is", z)
			} else {
				z.D[1] = 77
			}
			if z := s.At(d, 1<<11-1|more); !alikeZones(z, zone.Bottom(1)) {
				t.Error("P10.1: At is", z)
			}
		}
	}
}

func TestLeaf(t *testing.T) {
	for n := range api.MaxInts + 1 {
		s := must(t, n, 0, 100)
		for _, z := range append(pool(n), zone.Zone{N: n, D: []int{}}, zone.Zone{N: n, D: []int{1, 2, 3}}, zone.Zone{N: n, D: slices.Repeat([]int{9}, (n+1)*(n+1))}, zone.Zone{N: n, D: slices.Repeat([]int{-9}, (n+1)*(n+1))}) {
			given := zone.Zone{N: z.N, D: slices.Clone(z.D)}
			d, e := s.Leaf(given)
			if !alikeZones(given, z) {
				t.Error("R5: Leaf changed its zone")
			}
			for k := range given.D {
				given.D[k] = -5
			}
			id, held := s.Table().Find(z)
			if e != nil || !held || d != node.Term(id) || !s.Is(d) {
				t.Error("P10.1: Leaf of", z, "is", d, e)
			}
			has(t, "P10.1: Leaf", s, d, zone.Close(z), zone.Close(z))
		}
		for _, m := range []int{-1, 0, 1, 2, 6, 7, math.MinInt, math.MaxInt, n + 1, n - 1, n + 1<<32} {
			if held := s.Table().Len(); m != n {
				d, e := s.Leaf(zone.Zone{N: m})
				isArg(t, "Leaf", d, e)
				d, e = s.Leaf(zone.Zone{N: m, D: make([]int, (n+1)*(n+1))})
				isArg(t, "Leaf", d, e)
				if s.Table().Len() != held {
					t.Error("R2: Leaf of another N left a zone")
				}
			}
		}
	}
}

// asked is one call, and what it tells.
type asked struct {
	name string
	f    func() (int, error)
}

// same is what Map is asked for, where it isn't to be asked.
func same(z zone.Zone) zone.Zone { return z }

// ofDiagrams are all calls of a diagram d, and another one.
func ofDiagrams(s *Space, d, good, x int) []asked {
	return []asked{
		{"Join", func() (int, error) { return s.Join(d, good) }}, {"Join", func() (int, error) { return s.Join(good, d) }}, {"Join", func() (int, error) { return s.Join(d, d) }},
		{"Meet", func() (int, error) { return s.Meet(d, good) }}, {"Meet", func() (int, error) { return s.Meet(good, d) }}, {"Meet", func() (int, error) { return s.Meet(d, d) }},
		{"Widen", func() (int, error) { return s.Widen(d, good, nil) }}, {"Widen", func() (int, error) { return s.Widen(good, d, []int{5}) }}, {"Widen", func() (int, error) { return s.Widen(d, d, nil) }},
		{"Map", func() (int, error) { return s.Map(d, same) }}, {"Map", func() (int, error) { return s.Map(d, nil) }},
		{"Cut", func() (int, error) { return s.Cut(d, x) }}, {"Cut", func() (int, error) { return s.Cut(good, d) }}, {"Cut", func() (int, error) { return s.Cut(d, d) }},
		{"Half", func() (int, error) { return s.Half(d, 3, true) }}, {"Half", func() (int, error) { return s.Half(d, 0, false) }}, {"Half", func() (int, error) { return s.Half(d, 12, false) }},
		{"Forget", func() (int, error) { return s.Forget(d, 3) }}, {"Forget", func() (int, error) { return s.Forget(d, 11) }}, {"Forget", func() (int, error) { return s.Forget(d, -1) }},
		{"Put", func() (int, error) { return s.Put(d, 3, x) }}, {"Put", func() (int, error) { return s.Put(good, 3, d) }}, {"Put", func() (int, error) { return s.Put(d, 3, d) }}, {"Put", func() (int, error) { return s.Put(d, 12, d) }},
	}
}

// ofVars are all calls of a variable v.
func ofVars(s *Space, d, v, x int) []asked {
	return []asked{
		{"Half", func() (int, error) { return s.Half(d, v, true) }}, {"Half", func() (int, error) { return s.Half(d, v, false) }},
		{"Forget", func() (int, error) { return s.Forget(d, v) }},
		{"Put", func() (int, error) { return s.Put(d, v, x) }}, {"Put", func() (int, error) { return s.Put(d, v, bdd.True) }}, {"Put", func() (int, error) { return s.Put(d, v, bdd.False) }},
	}
}

// TestArg: each place of each call takes diagrams alone, and each v is a variable; with room and without. Nothing is held of what is refused.
func TestArg(t *testing.T) {
	for _, full := range []bool{false, true} {
		s, good, strange, x := stranger(t, 1, 10, 8)
		for k := 0; full && s.Mgr().Arena().Len() < 10; k++ {
			told(t)(s.Mgr().Arena().Mk(0, node.Term(k+90), node.Term(0)))
		}
		for k := 0; full && s.Table().Len() < 8; k++ {
			told(t)(s.Leaf(box(40, 50+k)))
		}
		if full { // what led to no id may do by now
			strange = strange[1:2]
		}
		nodes, zones := s.Mgr().Arena().Len(), s.Table().Len()
		for _, g := range good {
			for _, d := range append(wrongRefs(s), strange...) {
				for _, call := range ofDiagrams(s, d, g, x) {
					ref, e := call.f()
					isArg(t, call.name, ref, e)
				}
				if s.Leq(d, g) || s.Leq(g, d) || s.Leq(d, d) {
					t.Error("P10.2: Leq of", d, "is true")
				}
			}
			for _, v := range wrongVars() {
				for _, call := range ofVars(s, g, v, x) {
					ref, e := call.f()
					isArg(t, call.name, ref, e)
				}
			}
			ref, e := s.Map(g, nil)
			isArg(t, "Map", ref, e)
		}
		if s.Mgr().Arena().Len() != nodes || s.Table().Len() != zones {
			t.Error("R2: what was refused left nodes, or zones")
		}
	}
}

// TestNoBool: a diagram that has another zone than the bottom and the Top is no g, though it is a d.
func TestNoBool(t *testing.T) {
	s, good, _, x := stranger(t, 1, 20, 20)
	for _, g := range good {
		is := s.Mgr().Is(g)
		for _, d := range good {
			c, e := s.Cut(d, g)
			p, no := s.Put(d, 3, g)
			if is != (e == nil) || is != (no == nil) {
				t.Error("P10.3: Cut and Put of", d, g, "are", e, no)
			}
			if !is {
				isArg(t, "Cut", c, e)
				isArg(t, "Put", p, no)
			}
		}
	}
	if s.Mgr().Is(good[4]) || !s.Mgr().Is(x) {
		t.Error("P7.1: Is")
	}
}

// quad is a space with a diagram that has these zones for the bits v and w: of 00, 10, 01 and 11.
func quad(t *testing.T, v, w int, zones ...zone.Zone) (*Space, int) {
	t.Helper()
	s := must(t, 1, 100, 100)
	d := bdd.False
	for k, z := range zones {
		c := told(t)(s.Leaf(z))
		for i, u := range []int{v, w} {
			x := told(t)(s.Mgr().Var(u))
			if k>>i&1 == 0 {
				x = told(t)(s.Mgr().Not(x))
			}
			c = told(t)(s.Cut(c, x))
		}
		d = told(t)(s.Join(d, c))
	}
	return s, d
}

// TestOneTold asks for what comes of one diagram, as the chapter says it in words.
func TestOneTold(t *testing.T) {
	none, a, b, c, ab := zone.Bottom(1), box(0, 3), box(5, 9), box(2, 6), box(0, 9)
	ac, bc := box(0, 6), box(2, 9)
	s, d := quad(t, 0, 1, none, a, b, c)
	x, y := told(t)(s.Mgr().Var(0)), told(t)(s.Mgr().Var(1))
	both, odd := told(t)(s.Mgr().And(x, y)), told(t)(s.Mgr().Xor(x, y))
	not := told(t)(s.Mgr().Not(x))
	for _, row := range []struct {
		name string
		f    func() (int, error)
		want [4]zone.Zone
	}{
		{"the diagram", func() (int, error) { return d, nil }, [4]zone.Zone{none, a, b, c}},
		{"Cut by x", func() (int, error) { return s.Cut(d, x) }, [4]zone.Zone{none, a, none, c}},
		{"Cut by both", func() (int, error) { return s.Cut(d, both) }, [4]zone.Zone{none, none, none, c}},
		{"Cut by True", func() (int, error) { return s.Cut(d, bdd.True) }, [4]zone.Zone{none, a, b, c}},
		{"Cut by False", func() (int, error) { return s.Cut(d, bdd.False) }, [4]zone.Zone{none, none, none, none}},
		{"Half of 0, false", func() (int, error) { return s.Half(d, 0, false) }, [4]zone.Zone{none, none, b, b}},
		{"Half of 0, true", func() (int, error) { return s.Half(d, 0, true) }, [4]zone.Zone{a, a, c, c}},
		{"Half of 1, false", func() (int, error) { return s.Half(d, 1, false) }, [4]zone.Zone{none, a, none, a}},
		{"Half of 1, true", func() (int, error) { return s.Half(d, 1, true) }, [4]zone.Zone{b, c, b, c}},
		{"Half of 2", func() (int, error) { return s.Half(d, 2, true) }, [4]zone.Zone{none, a, b, c}},
		{"Forget of 0", func() (int, error) { return s.Forget(d, 0) }, [4]zone.Zone{a, a, bc, bc}},
		{"Forget of 1", func() (int, error) { return s.Forget(d, 1) }, [4]zone.Zone{b, ac, b, ac}},
		{"Forget of 2", func() (int, error) { return s.Forget(d, 2) }, [4]zone.Zone{none, a, b, c}},
		// Bit 0 becomes what it was.
		{"Put of 0, x", func() (int, error) { return s.Put(d, 0, x) }, [4]zone.Zone{none, a, b, c}},
		{"Put of 0, not x", func() (int, error) { return s.Put(d, 0, not) }, [4]zone.Zone{a, none, c, b}},
		{"Put of 1, not x", func() (int, error) { return s.Put(d, 1, not) }, [4]zone.Zone{none, ac, b, none}},
		{"Put of 0, True", func() (int, error) { return s.Put(d, 0, bdd.True) }, [4]zone.Zone{none, a, none, bc}},
		{"Put of 0, False", func() (int, error) { return s.Put(d, 0, bdd.False) }, [4]zone.Zone{a, none, bc, none}},
		{"Put of 1, True", func() (int, error) { return s.Put(d, 1, bdd.True) }, [4]zone.Zone{none, none, b, ac}},
		{"Put of 0, y", func() (int, error) { return s.Put(d, 0, y) }, [4]zone.Zone{a, none, none, bc}},
		{"Put of 1, x", func() (int, error) { return s.Put(d, 1, x) }, [4]zone.Zone{b, none, none, ac}},
		// 00 goes to 00, 10 to 10, 01 to 11, 11 to 01.
		{"Put of 0, odd", func() (int, error) { return s.Put(d, 0, odd) }, [4]zone.Zone{none, a, c, b}},
		// 00 and 10 go to 00, 01 to 01, 11 to 11.
		{"Put of 0, both", func() (int, error) { return s.Put(d, 0, both) }, [4]zone.Zone{a, none, b, c}},
		{"Put of 1, both", func() (int, error) { return s.Put(d, 1, both) }, [4]zone.Zone{b, a, none, c}},
	} {
		got := told(t)(row.f())
		has(t, "P10.3: "+row.name, s, got, row.want[:]...)
	}
	if _, flat := quad(t, 0, 1, ab, ab, ab, ab); !node.IsTerm(flat) {
		t.Error("P10.4: four times the same zone is no leaf:", flat)
	}
}

// TestPutNew: a bit on which nothing hung so far is put, too, above, between and below those on which something did.
func TestPutNew(t *testing.T) {
	for v := range 12 {
		for _, two := range [][2]int{{0, 11}, {4, 7}, {3, 10}} {
			if v == two[0] || v == two[1] {
				continue
			}
			s, d := quad(t, two[0], two[1], box(0, 0), box(1, 1), box(2, 2), box(3, 3))
			g := told(t)(s.Mgr().Var(two[1]))
			was, p := *readAll(s, d), told(t)(s.Put(d, v, g))
			one := told(t)(s.Put(d, v, bdd.True))
			for n, z := range *readAll(s, p) {
				k := n >> two[1] & 1
				if same := n>>v&1 == k; same != (z == was[n]) || !same && z != "bottom" {
					t.Fatal("P10.3: Put of", v, "is", z, "for", n)
				}
			}
			for n, z := range *readAll(s, one) {
				if set := n>>v&1 == 1; set != (z == was[n]) || !set && z != "bottom" {
					t.Fatal("P10.3: Put of True is", z, "for", n)
				}
			}
			if back := told(t)(s.Forget(p, v)); back != d {
				t.Fatal("P10.4: Forget of", v, "is", back, "not", d)
			}
		}
	}
}

// readAll is what At tells for the bits of all numbers, as texts.
func readAll(s *Space, d int) *[1 << 12]string {
	var l [1 << 12]string
	texts := map[int]string{}
	for n := range l {
		end := s.Mgr().Arena().Walk(d, uint(n))
		if _, is := texts[end]; !is {
			texts[end] = zone.Text(s.At(d, uint(n)))
		}
		l[n] = texts[end]
	}
	return &l
}

// TestTwoTold asks for what comes of two diagrams.
func TestTwoTold(t *testing.T) {
	none, a, b, c := zone.Bottom(1), box(0, 3), box(2, 9), box(7, 8)
	s, d := quad(t, 0, 1, none, a, b, c)
	for turned, l := range [][4]zone.Zone{{a, b, c, none}, {b, c, none, a}, {c, none, a, b}, {none, a, b, c}} {
		e := bdd.False
		for k, z := range l {
			x, y := told(t)(s.Mgr().Var(0)), told(t)(s.Mgr().Var(1))
			cell := told(t)(s.Cut(told(t)(s.Leaf(z)), told(t)(s.Mgr().Not(told(t)(s.Mgr().Or(flip(t, s, x, k&1), flip(t, s, y, k>>1)))))))
			e = told(t)(s.Join(e, cell))
		}
		has(t, "P10.2: the other one", s, e, l[:]...)
		for _, call := range []struct {
			name string
			got  int
			op   func(a, b zone.Zone) zone.Zone
		}{
			{"Join", told(t)(s.Join(d, e)), zone.Join}, {"Meet", told(t)(s.Meet(d, e)), zone.Meet},
			{"Widen", told(t)(s.Widen(d, e, []int{1, 12})), func(a, b zone.Zone) zone.Zone { return zone.Widen(a, b, []int{1, 12}) }},
			{"Widen without steps", told(t)(s.Widen(e, d, nil)), func(a, b zone.Zone) zone.Zone { return zone.Widen(b, a, nil) }},
		} {
			for bits, z := range []zone.Zone{none, a, b, c} {
				if got, want := s.At(call.got, uint(bits)), call.op(z, l[bits]); !alikeZones(got, want) {
					t.Error("P10.2:", call.name, turned, bits, "is", got, "not", want)
				}
			}
		}
		if got := s.Leq(d, e); got != (turned == 3) || s.Leq(e, d) != got {
			t.Error("P10.2: Leq of", turned, "is", got)
		}
	}
}

// flip is x, or of bit 1 its opposite: what isn't so where the bit is that.
func flip(t *testing.T, s *Space, x, bit int) int {
	if bit == 1 {
		return told(t)(s.Mgr().Not(x))
	}
	return x
}

// TestLeq: one number's bits of all for which it is not so are enough.
func TestLeq(t *testing.T) {
	s := must(t, 1, 1000, 9)
	low, high := told(t)(s.Leaf(box(0, 3))), told(t)(s.Leaf(box(0, 9)))
	for _, at := range []uint{0, 1, 4095, 2048, 1365, 77} {
		g := bdd.True
		for v := range 12 {
			x := told(t)(s.Mgr().Var(v))
			g = told(t)(s.Mgr().And(g, flip(t, s, x, int(^at>>v&1))))
		}
		one := told(t)(s.Cut(high, g))
		d := told(t)(s.Join(low, one))
		for _, row := range []struct {
			d, e int
			want bool
		}{
			{low, d, true}, {d, low, false}, {d, high, true}, {high, d, false}, {d, d, true}, {bdd.False, d, true}, {d, bdd.True, true}, {d, bdd.False, false}, {bdd.True, d, false},
			{one, d, true}, {d, one, false}, {one, low, false}, {low, one, false}, {one, g, true}, {g, one, false},
		} {
			if got := s.Leq(row.d, row.e); got != row.want {
				t.Error("P10.2: Leq of", row.d, row.e, "is", got)
			}
		}
	}
}

// TestMapAsked: each leaf is asked for, once, the bottom, too; and none that the diagram has not.
func TestMapAsked(t *testing.T) {
	none, a, b := zone.Bottom(1), box(0, 3), box(5, 9)
	s, d := quad(t, 5, 8, a, b, none, a)
	told(t)(s.Leaf(box(77, 78)))
	for _, row := range []struct {
		d    int
		want []zone.Zone
	}{{d, []zone.Zone{none, a, b}}, {bdd.False, []zone.Zone{none}}, {bdd.True, []zone.Zone{zone.Top(1)}}, {told(t)(s.Leaf(a)), []zone.Zone{a}}} {
		times := map[string]int{}
		out := told(t)(s.Map(row.d, func(z zone.Zone) zone.Zone {
			times[zone.Text(z)]++
			return zone.Copy(z, 1, 1, 10)
		}))
		for _, z := range row.want {
			if times[zone.Text(z)] != 1 {
				t.Error("P10.2: Map asks for", z, times[zone.Text(z)], "times")
			}
		}
		if len(times) != len(row.want) {
			t.Error("P10.2: Map asks for", times)
		}
		for _, bits := range []uint{0, 1 << 5, 1 << 8, 1<<5 | 1<<8} {
			if got, want := s.At(out, bits), zone.Copy(s.At(row.d, bits), 1, 1, 10); !alikeZones(got, want) {
				t.Error("P10.2: Map is", got, "not", want)
			}
		}
	}
}

// TestMapRefused: an f that tells a zone of another N, or that panics, of whichever leaf, is refused, and nothing is held of it.
func TestMapRefused(t *testing.T) {
	for _, room := range []int{5, 100} {
		for at := range 3 {
			for _, wrong := range []func() zone.Zone{
				func() zone.Zone { return zone.Top(2) }, func() zone.Zone { return zone.Zone{} }, func() zone.Zone { return zone.Zone{N: -1} }, func() zone.Zone { return zone.Zone{N: 7, D: []int{1}} },
				func() zone.Zone { panic("f") }, func() zone.Zone { panic(nil) }, func() zone.Zone { var l []zone.Zone; return l[len(l)] },
				func() zone.Zone { panic(errors.New("f")) },
			} {
				s := must(t, 1, 10, room)
				x, a, b := told(t)(s.Mgr().Var(2)), told(t)(s.Leaf(box(0, 3))), told(t)(s.Leaf(box(5, 9)))
				d := told(t)(s.Join(told(t)(s.Cut(a, x)), told(t)(s.Cut(b, told(t)(s.Mgr().And(x, told(t)(s.Mgr().Var(4))))))))
				nodes, zones, calls := s.Mgr().Arena().Len(), s.Table().Len(), 0
				ref, e := s.Map(d, func(z zone.Zone) zone.Zone {
					calls++
					if calls == at+1 {
						return wrong()
					}
					return box(calls, 50)
				})
				isArg(t, "Map", ref, e)
				if s.Mgr().Arena().Len() != nodes || s.Table().Len() != zones {
					t.Error("R2: a Map that was refused left nodes, or zones")
				}
			}
		}
	}
}

// TestMapOwn: f may write into what it is given, and into what it told; and may itself ask the space.
func TestMapOwn(t *testing.T) {
	s, d := quad(t, 1, 6, box(0, 3), box(5, 9), box(20, 22), box(0, 3))
	var kept []zone.Zone
	spoil := func() {
		for _, z := range kept {
			for k := range z.D {
				z.D[k] = -7
			}
		}
	}
	was := *readAll(s, d)
	out := told(t)(s.Map(d, func(z zone.Zone) zone.Zone {
		spoil()
		moved := zone.Copy(z, 1, 1, 1)
		kept = append(kept, z, moved)
		return moved
	}))
	spoil()
	if *readAll(s, d) != was {
		t.Error("R6: the diagram has changed")
	}
	for bits, z := range map[uint]zone.Zone{0: box(1, 4), 2: box(6, 10), 64: box(21, 23), 66: box(1, 4)} {
		if got := s.At(out, bits); !alikeZones(got, z) {
			t.Error("P10.2: Map is", got, "not", z)
		}
	}
	within := told(t)(s.Map(d, func(z zone.Zone) zone.Zone {
		told(t)(s.Put(out, 9, told(t)(s.Mgr().Var(3))))
		one := told(t)(s.Map(told(t)(s.Leaf(z)), func(z zone.Zone) zone.Zone { return zone.Copy(z, 1, 1, 1) }))
		return s.At(one, 0)
	}))
	if within != out {
		t.Error("P10.4: Map within Map is", within, "not", out)
	}
}

// TestSteps: those of Widen are not changed.
func TestSteps(t *testing.T) {
	s, d := quad(t, 0, 1, box(0, 3), box(0, 9), box(-5, 5), box(7, 7))
	steps := []int{9, -2, math.MinInt, 4, math.MaxInt}
	given := slices.Clone(steps)
	told(t)(s.Widen(d, bdd.True, steps))
	told(t)(s.Widen(bdd.False, d, steps))
	if !slices.Equal(steps, given) {
		t.Error("R5: Widen has changed its steps:", steps)
	}
}

// TestMany holds spaces of all N against the model, for calls that look like chance.
func TestMany(t *testing.T) {
	for n := range api.MaxInts + 1 {
		x, d := newModel(t, n, 1<<20, 1<<20), dice(n)
		vs := [][]int{all(), {0, 1, 2}, {11, 4, 7, 2}}[n%3]
		x.vars(vs...)
		for range 150 {
			x.move(&d, append(vs, 5))
			x.leqs(&d)
		}
		x.stay("all")
		if x.full != [2]int{} {
			t.Error("P10.3: no room:", x.full)
		}
	}
}

// TestRoom: there is an error just if what is told has no room, and all diagrams stay.
func TestRoom(t *testing.T) {
	var full [2]int
	for seed := range 90 {
		limit, leaves := []int{4 + seed/2, 1 << 16, 4 + seed/3}[seed%3], []int{1 << 12, 3 + seed/8, 3 + seed/9}[seed%3]
		x, d := newModel(t, 1+seed%4, limit, leaves), dice(seed)
		vs := []int{9, 1, 4}
		x.vars(vs...)
		for range 5 {
			x.leaf(&d)
		}
		for range 40 {
			x.move(&d, append(vs, 2))
		}
		full[0] += x.full[0]
		full[1] += x.full[1]
	}
	if full[0] < 100 || full[1] < 100 {
		t.Error("P10.3: there was room too often:", full)
	}
}

// TestNine: of zones of 3 variables, and 9 diagrams, 2^16 nodes and 2^12 zones are enough.
func TestNine(t *testing.T) {
	for seed := range 60 {
		x, d := newModel(t, seed%4, 1<<16, 1<<12), dice(seed+1000)
		x.vars(0, 5, 11)
		for range 6 {
			x.move(&d, []int{0, 5, 11})
		}
		if x.full != [2]int{} {
			t.Error("P10.3: no room for 9 diagrams:", seed)
		}
	}
}

// TestFullBoth: where neither a zone nor a node has room it is the zone that is told, whichever is met first.
func TestFullBoth(t *testing.T) {
	for _, turned := range []bool{false, true} {
		s := must(t, 1, 8, 5)
		x, y := told(t)(s.Mgr().Var(0)), told(t)(s.Mgr().Var(1))
		not := told(t)(s.Mgr().Not(x))
		if turned {
			x, not = not, x
		}
		a, b, c := told(t)(s.Leaf(box(0, 3))), told(t)(s.Leaf(box(5, 9))), told(t)(s.Leaf(box(0, 9)))
		d := told(t)(s.Join(told(t)(s.Cut(a, x)), told(t)(s.Cut(b, not))))
		e := told(t)(s.Cut(b, y))
		for k := 0; s.Mgr().Arena().Len() < s.Mgr().Arena().Limit(); k++ {
			told(t)(s.Mgr().Arena().Mk(11, node.Term(k+90), node.Term(0)))
		}
		was := [3]*[1 << 12]string{readAll(s, d), readAll(s, e), readAll(s, c)}
		shift := func(z zone.Zone) zone.Zone { return zone.Copy(z, 1, 1, 50) }
		ref, no := s.Map(d, shift)
		isLeafFull(t, "Map", ref, no)
		ref, no = s.Map(a, shift)
		isLeafFull(t, "Map", ref, no)
		ref, no = s.Meet(d, told(t)(s.Leaf(box(0, 9))))
		if ref != d || no != nil {
			t.Error("P10.3: Meet that needs no room is", ref, no)
		}
		ref, no = s.Join(e, d)
		isNodeFull(t, "Join", ref, no)
		ref, no = s.Widen(d, e, []int{12})
		isLeafFull(t, "Widen", ref, no)
		ref, no = s.Widen(e, c, []int{12})
		isLeafFull(t, "Widen", ref, no)
		ref, no = s.Cut(d, y)
		isNodeFull(t, "Cut", ref, no)
		ref, no = s.Put(d, 7, x)
		isNodeFull(t, "Put", ref, no)
		ref, no = s.Forget(d, 0)
		if ref != c || no != nil {
			t.Error("P10.3: Forget that needs no room is", ref, no)
		}
		ref, no = s.Half(e, 1, true)
		if ref != b || no != nil {
			t.Error("P10.3: Half that needs no room is", ref, no)
		}
		if s.Mgr().Arena().Len() != 8 || s.Table().Len() != 5 || *readAll(s, d) != *was[0] || *readAll(s, e) != *was[1] || *readAll(s, c) != *was[2] {
			t.Error("P10.3: where there was no room something has changed")
		}
	}
}

// TestLeafAhead: a node that has no room is met first, and a zone that has none behind it, or the other way round.
func TestLeafAhead(t *testing.T) {
	a, b := box(0, 3), box(5, 9)
	for _, l := range [][]zone.Zone{{a, zone.Top(1), b, zone.Top(1)}, {zone.Top(1), a, zone.Top(1), b}} {
		s, d := quad(t, 0, 1, l...)
		for k := 0; s.Mgr().Arena().Len() < s.Mgr().Arena().Limit(); k++ {
			told(t)(s.Mgr().Arena().Mk(11, node.Term(k+200), node.Term(0)))
		}
		turn := func(top zone.Zone) func(z zone.Zone) zone.Zone {
			return func(z zone.Zone) zone.Zone {
				switch {
				case zone.Same(z, a):
					return b
				case zone.Same(z, b):
					return a
				}
				return top
			}
		}
		ref, e := s.Map(d, turn(zone.Top(1)))
		isNodeFull(t, "Map", ref, e)
		for k := 0; s.Table().Len() < 100; k++ {
			told(t)(s.Leaf(box(500, 501+k)))
		}
		ref, e = s.Map(d, turn(zone.Top(1)))
		isNodeFull(t, "Map", ref, e)
		ref, e = s.Map(d, turn(box(77, 78)))
		isLeafFull(t, "Map", ref, e)
		if s.Mgr().Arena().Len() != 100 || s.Table().Len() != 100 {
			t.Error("P10.3: where there was no room something has changed")
		}
	}
}

// TestFaultsApart: what a fault is written into is not told again.
func TestFaultsApart(t *testing.T) {
	s := must(t, 1, 1, 9)
	x, a := told(t)(s.Mgr().Var(4)), told(t)(s.Leaf(box(0, 3)))
	for range 2 {
		d, e := s.Cut(a, x)
		isNodeFull(t, "Cut", d, e)
		if f, is := e.(*node.Fault); !is || f.Op != "mk" || f.V != 4 {
			t.Error("P10.3: the fault is", e)
		} else {
			*f = node.Fault{Op: "other", V: 3, Err: api.ErrZero}
		}
	}
}

// TestSame: diagrams that come to the same zones in other ways are the same, and no others are.
func TestSame(t *testing.T) {
	s := must(t, 2, 10000, 10000)
	zones := []zone.Zone{zone.Bottom(2), zone.Top(2), zone.Guard(zone.Top(2), 1, 2, -1), zone.Guard(zone.Guard(zone.Top(2), 1, 2, -1), 2, 0, 4)}
	refs := map[[4]int]int{}
	for k := range 256 {
		row := [4]int{k & 3, k >> 2 & 3, k >> 4 & 3, k >> 6}
		for _, order := range [][4]int{{0, 1, 2, 3}, {3, 1, 0, 2}, {2, 3, 1, 0}} {
			d := made(t, s, zones, row, order)
			if old, is := refs[row]; is && old != d {
				t.Fatal("P10.4: of", row, "there are", old, "and", d)
			}
			refs[row] = d
		}
	}
	back := map[int][4]int{}
	for row, d := range refs {
		if other, is := back[d]; is {
			t.Fatal("P10.4:", row, "and", other, "are", d)
		}
		back[d] = row
	}
}

// made is the diagram of a row of zones for the bits 9 and 3, put together in that order, of which each one is the Meet with all that isn't another one's.
func made(t *testing.T, s *Space, zones []zone.Zone, row, order [4]int) int {
	t.Helper()
	d := bdd.True
	for _, k := range order {
		x := flip(t, s, told(t)(s.Mgr().Var(9)), k&1)
		y := flip(t, s, told(t)(s.Mgr().Var(3)), k>>1)
		elsewhere := told(t)(s.Mgr().Or(x, y))
		d = told(t)(s.Meet(d, told(t)(s.Join(elsewhere, told(t)(s.Leaf(zones[row[k]]))))))
	}
	return d
}

// TestGreatest: diagrams of all 12 bits with a zone for each number come to an end, too, and have as many nodes as they must.
func TestGreatest(t *testing.T) {
	s := must(t, 1, 1<<20, 1<<20)
	row := make([]int, 1<<12)
	for n := range row {
		row[n] = told(t)(s.Leaf(box(n, n+1)))
	}
	for v := 11; v >= 0; v-- {
		next := make([]int, len(row)/2)
		for n := range next {
			next[n] = told(t)(s.Mgr().Arena().Mk(v, row[n], row[n+len(next)]))
		}
		row = next
	}
	d := row[0]
	if s.Mgr().Arena().Len() != 4095 || !s.Is(d) {
		t.Fatal("P10.1: the greatest diagram is none")
	}
	e := told(t)(s.Map(d, func(z zone.Zone) zone.Zone { return zone.Copy(z, 1, 1, 7) }))
	j := told(t)(s.Join(d, e))
	w := told(t)(s.Widen(d, e, []int{5000}))
	f := told(t)(s.Forget(d, 0))
	p := told(t)(s.Put(d, 0, told(t)(s.Mgr().Var(11))))
	for n := uint(0); n < 1<<12; n += 5 {
		k := int(n)
		for name, row := range map[string]struct {
			d    int
			want zone.Zone
		}{
			"At": {d, box(k, k+1)}, "Map": {e, box(k+7, k+8)}, "Join": {j, box(k, k+8)}, "Widen": {w, box(k, 5000)}, "Forget": {f, box(k&^1, k|1+1)},
		} {
			if got := s.Table().Get(node.Value(s.Mgr().Arena().Walk(row.d, n))); !alikeZones(got, row.want) {
				t.Fatal("P10.2:", name, strconv.Itoa(k), "is", got, "not", row.want)
			}
		}
	}
	if !s.Leq(d, j) || s.Leq(j, d) || !s.Leq(p, f) || s.Leq(f, p) {
		t.Error("P10.2: Leq of the greatest diagrams")
	}
}

// TestManyWays: many ways down through few nodes are not gone one by one.
func TestManyWays(t *testing.T) {
	s := must(t, 1, 1<<16, 100)
	odd := bdd.False
	for v := range 12 {
		odd = told(t)(s.Mgr().Xor(odd, told(t)(s.Mgr().Var(v))))
	}
	even := told(t)(s.Mgr().Not(odd))
	a, b := told(t)(s.Leaf(box(0, 3))), told(t)(s.Leaf(box(5, 9)))
	for range 300 {
		c, d := told(t)(s.Cut(a, odd)), told(t)(s.Cut(b, even))
		j := told(t)(s.Join(c, d))
		if back := told(t)(s.Cut(j, odd)); back != c || !s.Leq(c, j) || s.Leq(c, d) {
			t.Fatal("P10.4: Cut is", back, "not", c)
		}
		if all := told(t)(s.Forget(j, 11)); !node.IsTerm(all) || !alikeZones(s.At(all, 0), box(0, 9)) {
			t.Fatal("P10.3: Forget is", all)
		}
		if p := told(t)(s.Put(j, 11, odd)); told(t)(s.Half(p, 11, true)) != a || told(t)(s.Half(p, 11, false)) != b {
			t.Fatal("P10.3: Put is", p)
		}
	}
}
