package bdd

import (
	"errors"
	"math"
	"testing"

	"helmsman/api"
	"helmsman/node"
)

// table is a function of all variables: what it is for each number of 12 bits.
type table [64]uint64

func (x *table) at(n uint) bool { return x[n/64]>>(n%64)&1 == 1 }

// tabled writes a function down.
func tabled(f func(n uint) bool) table {
	var x table
	for n := range uint(1 << 12) {
		if f(n) {
			x[n/64] |= 1 << (n % 64)
		}
	}
	return x
}

// with is n with b as bit v.
func with(n uint, v int, b bool) uint {
	if b {
		return n | 1<<v
	}
	return n &^ (1 << v)
}

func bit(v int) table { return tabled(func(n uint) bool { return n>>v&1 == 1 }) }

// restrict lets both halves of x be the one where bit v is b. Below bit 6 they lie in one number.
func (x table) restrict(v int, b bool) table {
	var y table
	for i := range uint(64) {
		if v >= 6 {
			y[i] = x[with(i, v-6, b)]
			continue
		}
		// Of lows 2^v bits are set, then as many are not, and so on.
		step := 1 << v
		lows := uint64(math.MaxUint64) / (1<<step + 1)
		part := x[i] & lows
		if b {
			part = x[i] >> step & lows
		}
		y[i] = part | part<<step
	}
	return y
}

func (x table) exists(v int) table {
	y, z := x.restrict(v, false), x.restrict(v, true)
	return each(y, z, z, func(y, z, _ uint64) uint64 { return y | z })
}

func (x table) compose(v int, y table) table {
	return each(y, x.restrict(v, true), x.restrict(v, false), func(y, a, b uint64) uint64 { return y&a | ^y&b })
}

// each is what op makes of three functions' bits, 64 at once.
func each(x, y, z table, op func(x, y, z uint64) uint64) table {
	for i := range x {
		x[i] = op(x[i], y[i], z[i])
	}
	return x
}

// hangs is the variables that x hangs on, rising.
func (x table) hangs() []int {
	var l []int
	for v := range 12 {
		if x.restrict(v, false) != x.restrict(v, true) {
			l = append(l, v)
		}
	}
	return l
}

// support is the same, as bits.
func (x table) support() uint {
	s := uint(0)
	for _, v := range x.hangs() {
		s |= 1 << v
	}
	return s
}

// needs lists the functions of the nodes of x that are neither held nor in l yet.
func (x table) needs(held map[table]bool, l map[table]bool) {
	vs := x.hangs()
	if len(vs) == 0 || held[x] || l[x] {
		return
	}
	l[x] = true
	x.restrict(vs[0], false).needs(held, l)
	x.restrict(vs[0], true).needs(held, l)
}

// model holds a manager against the functions for which its nodes and its diagrams stand.
type model struct {
	t    *testing.T
	m    *Mgr
	held map[table]bool
	refs map[table]int
	list []table
	// full is how often there was no room.
	full int
}

func newModel(t *testing.T, limit, cache int) *model {
	zero, one := table{}, table{}
	for i := range one {
		one[i] = math.MaxUint64
	}
	return &model{t: t, m: New(limit, cache), held: map[table]bool{}, refs: map[table]int{zero: False, one: True}, list: []table{zero, one}}
}

// ref is that of the i-th diagram that was made.
func (x *model) ref(i int) int { return x.refs[x.list[i]] }

// read is the function for which a ref stands.
func (x *model) read(ref int) table {
	return tabled(func(n uint) bool { return x.m.Eval(ref, n) })
}

// told fails, if what a call told is not the diagram of want, or, where its nodes have no room, a fault.
func (x *model) told(call string, ref int, e error, want table) {
	x.t.Helper()
	need := map[table]bool{}
	want.needs(x.held, need)
	if a := x.m.Arena(); len(x.held)+len(need) > a.Limit() {
		x.faulted(call, ref, e, need)
		return
	}
	if e != nil || !x.m.Is(ref) || x.read(ref) != want {
		x.t.Fatal("P7.2:", call, "is", ref, e, "and not what it should be")
	}
	if old, is := x.refs[want]; is && old != ref {
		x.t.Fatal("P7.3:", call, "is", ref, "but the same function was", old)
	}
	if s := x.m.Support(ref); s != want.support() {
		x.t.Fatal("P7.1: Support of", call, "is", s, "not", want.support())
	}
	for y := range need {
		x.held[y] = true
	}
	if x.m.Arena().Len() != len(x.held) {
		x.t.Fatal("P7.2:", call, "leaves", x.m.Arena().Len(), "nodes, where", len(x.held), "are needed")
	}
	if _, is := x.refs[want]; !is {
		x.refs[want] = ref
		x.list = append(x.list, want)
	}
}

// faulted fails, if a call for which there is no room told anything else, or changed more than it may.
func (x *model) faulted(call string, ref int, e error, need map[table]bool) {
	x.t.Helper()
	x.full++
	isFull(x.t, call, ref, e)
	a := x.m.Arena()
	for k := len(x.held); k < a.Len(); k++ {
		y := x.read(k)
		if !need[y] || x.held[y] {
			x.t.Fatal("P7.2:", call, "had no room, but left a node that is not needed")
		}
		x.held[y] = true
	}
	x.stay(call)
}

// stay fails, if a diagram that was made is another one now.
func (x *model) stay(call string) {
	x.t.Helper()
	for want, ref := range x.refs {
		if x.read(ref) != want || !x.m.Is(ref) {
			x.t.Fatal("P7.2: behind", call, "the diagram", ref, "is not what it was")
		}
	}
}

// isFull fails, if a call does not tell that there was no room.
func isFull(t *testing.T, call string, ref int, e error) {
	t.Helper()
	f, fault := e.(*node.Fault)
	if ref != 0 || !fault || !errors.Is(e, api.ErrNodeFull) || f.Err != error(api.ErrNodeFull) {
		t.Fatal("P7.2:", call, "has no room, but is", ref, e)
	}
}

// isArg fails, if a call does not tell that it was asked something wrong.
func isArg(t *testing.T, call string, ref int, e error) {
	t.Helper()
	if ref != 0 || e == nil || e != error(api.ErrArg) {
		t.Error("P7.2:", call, "of what is wrong is", ref, e)
	}
}

// dice tells numbers that look like chance, always the same ones.
type dice uint64

func (d *dice) below(n int) int {
	*d = *d*6364136223846793005 + 1442695040888963407
	return int(uint64(*d) >> 33 % uint64(n))
}

// vars makes the diagrams of some bits.
func (x *model) vars(vs ...int) {
	x.t.Helper()
	for _, v := range vs {
		ref, e := x.m.Var(v)
		x.told("Var", ref, e, bit(v))
	}
}

// move makes one call more, of diagrams that were made, and of a variable of these.
func (x *model) move(d *dice, vs []int) {
	x.t.Helper()
	i, j, k, v := d.below(len(x.list)), d.below(len(x.list)), d.below(len(x.list)), vs[d.below(len(vs))]
	f, g, h := x.list[i], x.list[j], x.list[k]
	m := x.m
	switch d.below(9) {
	case 0:
		ref, e := m.Not(x.ref(i))
		x.told("Not", ref, e, each(f, f, f, func(f, _, _ uint64) uint64 { return ^f }))
	case 1:
		ref, e := m.And(x.ref(i), x.ref(j))
		x.told("And", ref, e, each(f, g, g, func(f, g, _ uint64) uint64 { return f & g }))
	case 2:
		ref, e := m.Or(x.ref(i), x.ref(j))
		x.told("Or", ref, e, each(f, g, g, func(f, g, _ uint64) uint64 { return f | g }))
	case 3:
		ref, e := m.Xor(x.ref(i), x.ref(j))
		x.told("Xor", ref, e, each(f, g, g, func(f, g, _ uint64) uint64 { return f ^ g }))
	case 4, 5:
		ref, e := m.Ite(x.ref(i), x.ref(j), x.ref(k))
		x.told("Ite", ref, e, each(f, g, h, func(f, g, h uint64) uint64 { return f&g | ^f&h }))
	case 6:
		ref, e := m.Restrict(x.ref(i), v, j%2 == 1)
		x.told("Restrict", ref, e, f.restrict(v, j%2 == 1))
	case 7:
		ref, e := m.Exists(x.ref(i), v)
		x.told("Exists", ref, e, f.exists(v))
	case 8:
		ref, e := m.Compose(x.ref(i), v, x.ref(j))
		x.told("Compose", ref, e, f.compose(v, g))
	}
}

// all are the variables that there may be.
func all() []int { return []int{0, 1, 2, 3, 4, 5, 6, 7, 8, 9, 10, 11} }

// caches are some numbers of places that a memo may be asked for.
func caches() []int { return []int{math.MinInt, 0, 1, 2, 7, 64, 1000, 1 << 16, math.MaxInt} }

// TestModel holds what the model makes of tables, many bits at once, against what it says bit by bit.
func TestModel(t *testing.T) {
	d := dice(3)
	for range 20 {
		var x, y table
		for i := range x {
			x[i], y[i] = uint64(d.below(1<<31))<<33^uint64(d.below(1<<31))<<7, uint64(d.below(1<<31))<<33^uint64(d.below(1<<31))
		}
		for _, v := range all() {
			for _, b := range []bool{false, true} {
				if x.restrict(v, b) != tabled(func(n uint) bool { return x.at(with(n, v, b)) }) {
					t.Fatal("the model's restrict of", v, b)
				}
			}
			if x.exists(v) != tabled(func(n uint) bool { return x.at(with(n, v, false)) || x.at(with(n, v, true)) }) {
				t.Fatal("the model's exists of", v)
			}
			if x.compose(v, y) != tabled(func(n uint) bool { return x.at(with(n, v, y.at(n))) }) {
				t.Fatal("the model's compose of", v)
			}
		}
	}
}
