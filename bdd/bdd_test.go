package bdd

import (
	"math"
	"testing"

	"helmsman/api"
	"helmsman/node"
)

func TestNew(t *testing.T) {
	for _, x := range [][2]int{{0, 0}, {1, 1}, {100, 100}, {-1, 0}, {math.MinInt, 0}, {math.MaxInt, math.MaxInt}} {
		for _, cache := range caches() {
			m := New(x[0], cache)
			if m == nil || m.Arena() == nil || m.Arena().Limit() != x[1] || m.Arena().Len() != 0 {
				t.Fatal("P7.1: New of", x[0], cache)
			}
		}
	}
}

// TestArena: it is the manager's own, always, so that what is put there is there for both.
func TestArena(t *testing.T) {
	m := New(9, 9)
	a := m.Arena()
	x, _ := m.Var(4)
	if m.Arena() != a || a.Len() != 1 {
		t.Fatal("P7.1: Arena is another one")
	}
	if ref, e := a.Mk(4, node.Term(0), node.Term(1)); ref != x || e != nil {
		t.Error("P7.1: Mk of what Var made is", ref, e)
	}
	y, _ := a.Mk(2, x, node.Term(1))
	if !m.Is(y) || m.Support(y) != 1<<4|1<<2 {
		t.Error("P7.1: what was put into the arena is", m.Is(y), m.Support(y))
	}
	if ref, e := m.Var(2); e != nil || ref != 2 {
		t.Error("P7.1: Var is", ref, e)
	}
	v, _ := m.Var(2)
	if ref, e := m.Or(v, x); ref != y || e != nil {
		t.Error("P7.3: Or is", ref, e, "not what the arena has,", y)
	}
	other := New(9, 9)
	if other.Arena() == a || other.Arena().Len() != 0 || other.Is(x) {
		t.Error("P7.1: two managers have one arena")
	}
}

// TestChapter goes through the chapter's example.
func TestChapter(t *testing.T) {
	m := New(9, 9)
	x, _ := m.Var(0)
	y, _ := m.Not(x)
	if f, e := m.And(x, y); f != False || e != nil {
		t.Error("P7.2: And is", f, e)
	}
	if False != node.Term(0) || True != node.Term(1) {
		t.Error("P7.1: False and True are", False, True)
	}
}

// TestNoNodes: where no node may be, there are False and True all the same.
func TestNoNodes(t *testing.T) {
	m := New(0, 0)
	for i, x := range []struct {
		f    func() (int, error)
		want int
	}{
		{func() (int, error) { return m.Not(False) }, True}, {func() (int, error) { return m.Not(True) }, False},
		{func() (int, error) { return m.And(True, True) }, True}, {func() (int, error) { return m.And(True, False) }, False},
		{func() (int, error) { return m.Or(False, False) }, False}, {func() (int, error) { return m.Or(False, True) }, True},
		{func() (int, error) { return m.Xor(True, True) }, False}, {func() (int, error) { return m.Xor(True, False) }, True},
		{func() (int, error) { return m.Ite(True, False, True) }, False}, {func() (int, error) { return m.Ite(False, False, True) }, True},
		{func() (int, error) { return m.Restrict(True, 11, false) }, True}, {func() (int, error) { return m.Exists(False, 0) }, False},
		{func() (int, error) { return m.Compose(True, 3, False) }, True}, {func() (int, error) { return m.Compose(False, 3, True) }, False},
	} {
		if f, e := x.f(); f != x.want || e != nil {
			t.Error("P7.2: row", i, "is", f, e, "not", x.want)
		}
	}
	for v := range 12 {
		f, e := m.Var(v)
		isFull(t, "Var", f, e)
	}
	if !m.Is(False) || !m.Is(True) || m.Is(0) || !m.Eval(True, 0) || m.Eval(False, 5) {
		t.Error("P7.1: of no nodes: Is and Eval")
	}
}

func TestVar(t *testing.T) {
	x := newModel(t, 12, 9)
	x.vars(11, 0, 5)
	x.vars(all()...)
	x.vars(all()...)
	for _, v := range wrongVars() {
		f, e := x.m.Var(v)
		isArg(t, "Var", f, e)
	}
}

// wrongVars are no variables.
func wrongVars() []int {
	return []int{-1, 12, 13, 64, 1<<32 + 3, 1 << 62, math.MaxInt, math.MinInt, math.MinInt + 3}
}

// stranger is a manager in whose arena are nodes that are no booleans: it tells them, and one that is one.
func stranger(t *testing.T) (*Mgr, []int, int) {
	t.Helper()
	m := New(100, 50)
	x, e := m.Var(3)
	if e != nil {
		t.Fatal("P7.2: Var is", e)
	}
	a := m.Arena()
	var l []int
	mk := func(v, low, high int) {
		ref, e := a.Mk(v, low, high)
		if e != nil {
			t.Fatal("P5.2:", e)
		}
		l = append(l, ref)
	}
	mk(5, True, node.Term(2))
	mk(5, node.Term(1<<40), False)
	mk(2, x, l[0])
	mk(1, l[1], True)
	mk(0, x, l[2])
	mk(0, l[3], l[2])
	return m, l, x
}

func TestIs(t *testing.T) {
	m, strange, x := stranger(t)
	for _, f := range append(wrongRefs(m), strange...) {
		for range 2 {
			if m.Is(f) || m.Support(f) != 0 {
				t.Error("P7.1: Is and Support of", f, "are", m.Is(f), m.Support(f))
			}
		}
	}
	for _, f := range []int{False, True, x} {
		if !m.Is(f) {
			t.Error("P7.1: Is of", f, "is false")
		}
	}
	if m.Support(x) != 8 || m.Support(True) != 0 || m.Support(False) != 0 {
		t.Error("P7.1: Support is", m.Support(x), m.Support(True), m.Support(False))
	}
}

// wrongRefs are refs that the arena has not, and terminals of other numbers than 0 and 1.
func wrongRefs(m *Mgr) []int {
	n := m.Arena().Len()
	return []int{n, n + 1, n + 1<<32, 1 << 40, math.MaxInt, -3, -4, -12, -1 - (1 << 40), -2 - (1 << 40), -1 << 62, math.MinInt, math.MinInt + 1}
}

// TestIsLater: what is none yet may be one, as soon as there is such a node.
func TestIsLater(t *testing.T) {
	for _, cache := range caches() {
		m := New(9, cache)
		for k := range 9 {
			if m.Is(k) || m.Support(k) != 0 || m.Eval(k, 1<<k) {
				t.Fatal("P7.1: Is of", k, "of", m.Arena().Len())
			}
			f, e := m.Not(k)
			isArg(t, "Not", f, e)
			if x, e := m.Var(k); x != k || e != nil {
				t.Fatal("P7.2: Var is", x, e)
			}
			if !m.Is(k) || m.Support(k) != 1<<k || !m.Eval(k, 1<<k) {
				t.Fatal("P7.1: Is of", k, "of", m.Arena().Len())
			}
		}
	}
}

// TestEval: it tells of each ref where Walk leads, and of bits beyond all variables nothing hangs on.
func TestEval(t *testing.T) {
	m, strange, x := stranger(t)
	for _, f := range append(append(wrongRefs(m), strange...), False, True, x) {
		for bits := range uint(64) {
			for _, more := range []uint{0, 1 << 12, 1 << 63, math.MaxUint &^ 4095} {
				if got := m.Eval(f, bits|more); got != (m.Arena().Walk(f, bits) == node.Term(1)) {
					t.Fatal("P7.1: Eval of", f, bits|more, "is", got)
				}
			}
		}
	}
	if !m.Eval(strange[0], 0) || m.Eval(strange[0], 1<<5) || !m.Eval(x, 8) || m.Eval(x, 7) {
		t.Error("P7.1: Eval")
	}
}

// TestArg: each place of each call takes diagrams of booleans alone, and each v is a variable; with and without room.
func TestArg(t *testing.T) {
	m, strange, x := stranger(t)
	wrong := append(wrongRefs(m), strange...)
	for range 2 {
		held := m.Arena().Len()
		for _, good := range []int{False, True, x} {
			for _, f := range wrong {
				argRefs(t, m, good, f)
			}
			for _, v := range wrongVars() {
				argVars(t, m, good, v)
			}
		}
		if m.Arena().Len() != held {
			t.Error("P7.2: what was refused left nodes")
		}
		for k := 0; m.Arena().Len() < m.Arena().Limit(); k++ {
			m.Arena().Mk(0, node.Term(k+5), node.Term(0))
		}
	}
}

// argRefs asks each call of a good ref and a wrong one.
func argRefs(t *testing.T, m *Mgr, good, f int) {
	t.Helper()
	for name, op := range map[string]func(f, g int) (int, error){"And": m.And, "Or": m.Or, "Xor": m.Xor} {
		for _, two := range [][2]int{{good, f}, {f, good}, {f, f}} {
			ref, e := op(two[0], two[1])
			isArg(t, name, ref, e)
		}
	}
	for _, three := range [][3]int{{f, good, good}, {good, f, good}, {good, good, f}, {False, f, good}, {True, good, f}, {good, f, f}, {f, f, f}} {
		ref, e := m.Ite(three[0], three[1], three[2])
		isArg(t, "Ite", ref, e)
	}
	ref, e := m.Not(f)
	isArg(t, "Not", ref, e)
	for _, v := range []int{0, 3, 11, 12, -1} {
		ref, e = m.Restrict(f, v, v == 3)
		isArg(t, "Restrict", ref, e)
		ref, e = m.Exists(f, v)
		isArg(t, "Exists", ref, e)
		ref, e = m.Compose(f, v, good)
		isArg(t, "Compose", ref, e)
		ref, e = m.Compose(good, v, f)
		isArg(t, "Compose", ref, e)
	}
}

// argVars asks each call of a variable that is none.
func argVars(t *testing.T, m *Mgr, good, v int) {
	t.Helper()
	ref, e := m.Var(v)
	isArg(t, "Var", ref, e)
	ref, e = m.Restrict(good, v, true)
	isArg(t, "Restrict", ref, e)
	ref, e = m.Restrict(good, v, false)
	isArg(t, "Restrict", ref, e)
	ref, e = m.Exists(good, v)
	isArg(t, "Exists", ref, e)
	ref, e = m.Compose(good, v, True)
	isArg(t, "Compose", ref, e)
}

// three are all functions of three bits: bit i of k says what the k-th is for the number i.
type three struct {
	m    *Mgr
	vs   [3]int
	refs [256]int
}

// newThree makes them by Ite alone, bit by bit, and looks whether they are these.
func newThree(t *testing.T, cache int, vs [3]int) *three {
	t.Helper()
	x := &three{m: New(1000, cache), vs: vs}
	var bits [3]int
	for i, v := range vs {
		f, e := x.m.Var(v)
		if e != nil {
			t.Fatal("P7.2: Var is", e)
		}
		bits[i] = f
	}
	for k := range 256 {
		x.refs[k] = x.make(t, bits, k, 0, 0)
		if got := x.says(x.refs[k]); got != k || !x.m.Is(x.refs[k]) {
			t.Fatal("P7.2: of three bits the function", k, "is", got)
		}
	}
	return x
}

// make tells the diagram of k, where the first bits are those of n.
func (x *three) make(t *testing.T, bits [3]int, k, i, n int) int {
	t.Helper()
	if i == 3 {
		return -1 - k>>n&1
	}
	f, e := x.m.Ite(bits[i], x.make(t, bits, k, i+1, n|1<<i), x.make(t, bits, k, i+1, n))
	if e != nil {
		t.Fatal("P7.2: Ite is", e)
	}
	return f
}

// says tells which of the functions a ref stands for.
func (x *three) says(f int) int {
	k := 0
	for i := range 8 {
		bits := uint(0)
		for j, v := range x.vs {
			bits |= uint(i>>j&1) << v
		}
		if x.m.Eval(f, bits) {
			k |= 1 << i
		}
	}
	return k
}

// is fails, if a call did not tell the diagram of k.
func (x *three) is(t *testing.T, call string, f int, e error, k int) {
	t.Helper()
	if e != nil || f != x.refs[k] {
		t.Fatal("P7.2, P7.3:", call, "is", f, e, "not that of", k, "which is", x.refs[k])
	}
}

// orders are three variables, as they rise and as they do not.
func orders() [][3]int { return [][3]int{{0, 1, 2}, {11, 5, 0}, {4, 9, 7}} }

// TestTwo asks Not, And, Or and Xor of all functions of three bits.
func TestTwo(t *testing.T) {
	for i, vs := range orders() {
		x := newThree(t, []int{1, 100, 1 << 16}[i], vs)
		for k := range 256 {
			f, e := x.m.Not(x.refs[k])
			x.is(t, "Not", f, e, 255^k)
			for l := range 256 {
				f, e = x.m.And(x.refs[k], x.refs[l])
				x.is(t, "And", f, e, k&l)
				f, e = x.m.Or(x.refs[k], x.refs[l])
				x.is(t, "Or", f, e, k|l)
				f, e = x.m.Xor(x.refs[k], x.refs[l])
				x.is(t, "Xor", f, e, k^l)
			}
		}
	}
}

// TestIte asks it of many functions of three bits.
func TestIte(t *testing.T) {
	for i, vs := range orders() {
		x := newThree(t, []int{1 << 16, 1, 100}[i], vs)
		for k := range 256 {
			for l := range 256 {
				for n := (k + l) % 31; n < 256; n += 31 {
					f, e := x.m.Ite(x.refs[k], x.refs[l], x.refs[n])
					x.is(t, "Ite", f, e, k&l|^k&n)
				}
			}
		}
	}
}

// put is the function k, with that of l as bit j.
func put(k, j, l int) int {
	out := 0
	for n := range 8 {
		out |= k >> (n&^(1<<j) | l>>n&1<<j) & 1 << n
	}
	return out
}

// TestOneBit asks Restrict, Exists and Compose of all functions of three bits, and all variables.
func TestOneBit(t *testing.T) {
	for i, vs := range orders() {
		x := newThree(t, []int{100, 1 << 16, 1}[i], vs)
		for k := range 256 {
			for j, v := range vs {
				f, e := x.m.Restrict(x.refs[k], v, false)
				x.is(t, "Restrict", f, e, put(k, j, 0))
				f, e = x.m.Restrict(x.refs[k], v, true)
				x.is(t, "Restrict", f, e, put(k, j, 255))
				f, e = x.m.Exists(x.refs[k], v)
				x.is(t, "Exists", f, e, put(k, j, 0)|put(k, j, 255))
				for l := range 256 {
					f, e = x.m.Compose(x.refs[k], v, x.refs[l])
					x.is(t, "Compose", f, e, put(k, j, l))
				}
			}
			x.other(t, k)
		}
	}
}

// other asks the same of variables that are none of the three.
func (x *three) other(t *testing.T, k int) {
	t.Helper()
	for v := range 12 {
		if v == x.vs[0] || v == x.vs[1] || v == x.vs[2] {
			continue
		}
		f, e := x.m.Restrict(x.refs[k], v, k%2 == 0)
		x.is(t, "Restrict", f, e, k)
		f, e = x.m.Exists(x.refs[k], v)
		x.is(t, "Exists", f, e, k)
		f, e = x.m.Compose(x.refs[k], v, x.refs[255-k/2])
		x.is(t, "Compose", f, e, k)
	}
}

// TestMany holds managers of all variables against the model, for calls that look like chance.
func TestMany(t *testing.T) {
	for i, cache := range caches() {
		x, d := newModel(t, 1<<20, cache), dice(i)
		x.vars(all()...)
		for range 300 {
			x.move(&d, all())
		}
		x.stay("all")
	}
}

// TestMemo: with a memo of whatever size the same calls tell the same refs.
func TestMemo(t *testing.T) {
	for _, limit := range []int{40, 300, 1 << 20} {
		var first *model
		for _, cache := range caches() {
			x, d := newModel(t, limit, cache), dice(77)
			x.vars(all()...)
			for range 150 {
				x.move(&d, all())
			}
			if first == nil {
				first = x
			}
			if len(x.list) != len(first.list) || x.m.Arena().Len() != first.m.Arena().Len() {
				t.Fatal("P7.3: a memo of", cache, "has", len(x.list), "diagrams, not", len(first.list))
			}
			for want, ref := range first.refs {
				if got, is := x.refs[want]; !is || got != ref {
					t.Fatal("P7.3: a memo of", cache, "has", got, "not", ref)
				}
			}
		}
	}
}

// TestRoom: there is a fault just if the nodes of what is told have no room, and nothing is changed by it.
func TestRoom(t *testing.T) {
	full := 0
	for limit := range 60 {
		for _, cache := range []int{1, 100} {
			x, d := newModel(t, limit, cache), dice(limit)
			vs := []int{11, 3, 7, 0, 5}[:min(limit, 5)]
			x.vars(vs...)
			for range 40 {
				x.move(&d, append(vs, 2))
			}
			full += x.full
		}
	}
	if full < 500 {
		t.Error("P7.2: there was room too often:", full)
	}
}

// TestJustRoom: of each call, an arena with all nodes that are needed has room, and one with one node less has none.
func TestJustRoom(t *testing.T) {
	for seed := range 200 {
		wide, d := newModel(t, 1<<16, 9), dice(seed)
		wide.vars(9, 4, 6, 1)
		for range 12 {
			wide.move(&d, []int{9, 4, 6, 1})
		}
		before := wide.m.Arena().Len()
		last := d
		wide.move(&d, []int{9, 4, 6, 1})
		needed := wide.m.Arena().Len() - before
		for less := range min(needed, 2) + 1 {
			x, d := newModel(t, before+needed-less, 9), dice(seed)
			x.vars(9, 4, 6, 1)
			for range 12 {
				x.move(&d, []int{9, 4, 6, 1})
			}
			if d != last || x.full != 0 {
				t.Fatal("P7.2: no room for what had room:", seed)
			}
			x.move(&d, []int{9, 4, 6, 1})
			if (x.full != 0) != (less > 0) {
				t.Fatal("P7.2: with", less, "nodes less than are needed:", seed)
			}
		}
	}
}

// TestSix: of 6 variables and 20 diagrams an arena of 2^16 has room for all.
func TestSix(t *testing.T) {
	for seed := range 60 {
		x, d := newModel(t, 1<<16, seed), dice(seed+1000)
		vs := []int{0, 2, 3, 7, 10, 11}
		x.vars(vs...)
		for range 14 {
			x.move(&d, vs)
		}
		if x.full != 0 {
			t.Error("P7.2: no room for 20 diagrams")
		}
	}
}

// TestFull: where there is no room for one diagram there may be for others, with nodes that are held.
func TestFull(t *testing.T) {
	m := New(3, 16)
	x, _ := m.Var(0)
	y, _ := m.Var(1)
	f, e := m.And(x, y)
	if f != 2 || e != nil {
		t.Fatal("P7.2: And is", f, e)
	}
	for range 2 {
		g, e := m.Or(x, y)
		isFull(t, "Or", g, e)
		g, e = m.Not(x)
		isFull(t, "Not", g, e)
		g, e = m.Var(2)
		isFull(t, "Var", g, e)
		g, e = m.Ite(f, False, True)
		isFull(t, "Ite", g, e)
		if g, e = m.And(y, x); g != f || e != nil {
			t.Error("P7.3: And is", g, e)
		}
		if g, e = m.Exists(f, 0); g != y || e != nil {
			t.Error("P7.2: Exists is", g, e)
		}
		if g, e = m.Restrict(f, 1, true); g != x || e != nil {
			t.Error("P7.2: Restrict is", g, e)
		}
		if g, e = m.Compose(f, 1, True); g != x || e != nil {
			t.Error("P7.2: Compose is", g, e)
		}
		if g, e = m.Compose(x, 0, y); g != y || e != nil || m.Arena().Len() != 3 {
			t.Error("P7.2: Compose is", g, e)
		}
		g, e = m.Compose(f, 1, 1)
		if g != f || e != nil {
			t.Error("P7.2: Compose of bit 1 with itself is", g, e)
		}
	}
}

// TestFaultsApart: what a fault is written into is not told again.
func TestFaultsApart(t *testing.T) {
	m := New(1, 9)
	x, _ := m.Var(4)
	for range 2 {
		f, e := m.Not(x)
		isFull(t, "Not", f, e)
		fault := e.(*node.Fault)
		*fault = node.Fault{Op: "other", V: 3, Err: api.ErrZero}
	}
}

// TestAtOnce: all variables, a memo that keeps nothing, and diagrams that have many ways down still come to an end.
func TestAtOnce(t *testing.T) {
	m := New(1<<16, 0)
	odd, even := False, True
	for v := range 12 {
		// Bit 0 is node 0.
		x, _ := m.Var(v)
		odd, _ = m.Xor(odd, x)
		even, _ = m.Xor(x, even)
	}
	for range 50 {
		if f, e := m.Not(odd); f != even || e != nil {
			t.Fatal("P7.3: Not is", f, e)
		}
		if f, e := m.And(odd, even); f != False || e != nil {
			t.Fatal("P7.3: And is", f, e)
		}
		if f, e := m.Exists(odd, 11); f != True || e != nil {
			t.Fatal("P7.3: Exists is", f, e)
		}
		if f, e := m.Compose(odd, 0, odd); f != 0 || e != nil {
			t.Fatal("P7.3: Compose is", f, e, "not bit 0")
		}
		if f, e := m.Ite(odd, even, odd); f != False || e != nil {
			t.Fatal("P7.3: Ite is", f, e)
		}
	}
}
