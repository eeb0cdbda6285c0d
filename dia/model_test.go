package dia

import (
	"errors"
	"slices"
	"testing"

	"helmsman/api"
	"helmsman/bdd"
	"helmsman/node"
	"helmsman/span"
	"helmsman/zone"
)

// table is a diagram, written down: which of the model's zones it has for each number of 12 bits.
type table [1 << 12]int

// set are numbers of a model's zones, or nodes.
type set map[int]struct{}

func (l set) has(k int) bool {
	_, is := l[k]
	return is
}

func (l set) add(k int) { l[k] = struct{}{} }

// model holds a space against tables of zones.
type model struct {
	t *testing.T
	s *Space
	// zones are all that were met, each once: 0 is the bottom, 1 the Top.
	zones []zone.Zone
	ids   map[string]int
	// known is what zone's calls made of two of them: the call comes first.
	known map[[3]int]int
	// lies tells of which two of them the first one is in the second one.
	lies map[[2]int]int
	// nodes are those of all tables that were met, each once: numbers tells the place of each.
	nodes   []node.Node
	numbers map[node.Node]int
	// room is how many zones the space may have.
	room int
	// leaves and held are what the space has by now.
	leaves, held set
	// refs tells the ref of a table by its shape, list has the tables that were told.
	refs map[int]int
	list []*table
	// full is how often there was no room, by leaves, and by nodes.
	full [2]int
}

func newModel(t *testing.T, n, limit, leaves int) *model {
	t.Helper()
	s, e := New(n, limit, leaves)
	if e != nil || s == nil {
		t.Fatal("P10.1: New of", n, limit, leaves, "is", e)
	}
	x := &model{t: t, s: s, ids: map[string]int{}, known: map[[3]int]int{}, lies: map[[2]int]int{}, numbers: map[node.Node]int{}, room: leaves, leaves: set{}, held: set{}, refs: map[int]int{}}
	x.leaves.add(x.number(zone.Bottom(n)))
	x.leaves.add(x.number(zone.Top(n)))
	x.told("False", bdd.False, nil, x.flat(zone.Bottom(n)))
	x.told("True", bdd.True, nil, x.flat(zone.Top(n)))
	return x
}

// number is that of a zone.
func (x *model) number(z zone.Zone) int {
	k, is := x.ids[zone.Text(z)]
	if !is {
		k = len(x.zones)
		x.zones = append(x.zones, zone.Close(z))
		x.ids[zone.Text(z)] = k
	}
	return k
}

// flat is the table of one zone for all bits.
func (x *model) flat(z zone.Zone) *table {
	k := x.number(z)
	return tabled(func(uint) int { return k })
}

func tabled(f func(n uint) int) *table {
	var y table
	for n := range y {
		y[n] = f(uint(n))
	}
	return &y
}

// with is n with b as bit v.
func with(n uint, v int, b bool) uint {
	if b {
		return n | 1<<v
	}
	return n &^ (1 << v)
}

// bit is the table of bit v.
func bit(v int) *table { return tabled(func(n uint) int { return int(n >> v & 1) }) }

// two is what op makes of zones a and b.
func (x *model) two(call, a, b int, op func(a, b zone.Zone) zone.Zone) int {
	k := [3]int{call, a, b}
	c, is := x.known[k]
	if !is {
		c = x.number(op(x.zones[a], x.zones[b]))
		x.known[k] = c
	}
	return c
}

// both is what op makes of two tables, bits by bits.
func (x *model) both(call int, y, z *table, op func(a, b zone.Zone) zone.Zone) *table {
	return tabled(func(n uint) int { return x.two(call, y[n], z[n], op) })
}

func (x *model) join(a, b int) int { return x.two(0, a, b, zone.Join) }

// mapped is what f makes of a table.
func (x *model) mapped(y *table, f func(z zone.Zone) zone.Zone) *table {
	made := map[int]int{}
	return tabled(func(n uint) int {
		k, is := made[y[n]]
		if !is {
			k = x.number(f(x.zones[y[n]]))
			made[y[n]] = k
		}
		return k
	})
}

func cut(y, g *table) *table {
	return tabled(func(n uint) int {
		if g[n] == 0 {
			return 0
		}
		return y[n]
	})
}

func half(y *table, v int, b bool) *table {
	return tabled(func(n uint) int { return y[with(n, v, b)] })
}

func (x *model) forget(y *table, v int) *table {
	return tabled(func(n uint) int { return x.join(y[with(n, v, false)], y[with(n, v, true)]) })
}

// put looks, by the chapter's words, at all bits that there may have been ahead of it.
func (x *model) put(y *table, v int, g *table) *table {
	return tabled(func(n uint) int {
		out := 0
		for _, b := range []bool{false, true} {
			before := with(n, v, b)
			if with(before, v, g[before] == 1) == n {
				out = x.join(out, y[before])
			}
		}
		return out
	})
}

// isBool tells whether a table has no other zones than the bottom and the Top.
func isBool(y *table) bool { return slices.Max(y[:]) <= 1 }

// shape is the number of a table's node (of a zone it is below 0), as halves are put together from the last bit on;
// it lists the nodes and zones that it is made of.
func (x *model) shape(y *table) (root int, nodes, zones set) {
	row := y[:]
	zones = set{}
	for _, k := range y {
		zones.add(k)
	}
	for v := 11; v >= 0; v-- {
		next := make([]int, len(row)/2)
		for i := range next {
			low, high := row[i], row[i+len(next)]
			if v == 11 {
				low, high = -1-low, -1-high
			}
			next[i] = x.node(node.Node{V: v, Low: low, High: high})
		}
		row = next
	}
	nodes = set{}
	x.below(row[0], nodes)
	return row[0], nodes, zones
}

func (x *model) node(n node.Node) int {
	if n.Low == n.High {
		return n.Low
	}
	k, is := x.numbers[n]
	if !is {
		k = len(x.nodes)
		x.numbers[n] = k
		x.nodes = append(x.nodes, n)
	}
	return k
}

func (x *model) below(root int, nodes set) {
	if root < 0 || nodes.has(root) {
		return
	}
	nodes.add(root)
	x.below(x.nodes[root].Low, nodes)
	x.below(x.nodes[root].High, nodes)
}

// without is what of l is not in other.
func without(l, other set) set {
	out := set{}
	for k := range l {
		if !other.has(k) {
			out.add(k)
		}
	}
	return out
}

// read is the table for which a ref stands, by where Walk leads.
func (x *model) read(ref int) *table {
	numbers := map[int]int{}
	return tabled(func(n uint) int {
		end := x.s.Mgr().Arena().Walk(ref, n)
		k, is := numbers[end]
		if !is {
			k = x.number(x.s.Table().Get(node.Value(end)))
			numbers[end] = k
		}
		return k
	})
}

// told fails, if what a call told is not the diagram of want, or, where there is no room for it, not an error that says so.
func (x *model) told(call string, ref int, e error, want *table) {
	x.t.Helper()
	root, nodes, zones := x.shape(want)
	nodes, zones = without(nodes, x.held), without(zones, x.leaves)
	if len(x.leaves)+len(zones) > x.room || len(x.held)+len(nodes) > x.s.Mgr().Arena().Limit() {
		x.failed(call, ref, e, nodes, zones)
		return
	}
	if e != nil || !x.s.Is(ref) || *x.read(ref) != *want {
		x.t.Fatal("P10:", call, "is", ref, e, "and not what it should be")
	}
	if old, is := x.refs[root]; is && old != ref {
		x.t.Fatal("P10.4:", call, "is", ref, "but the same diagram was", old)
	}
	x.looked(call, ref, want)
	for k := range nodes {
		x.held.add(k)
	}
	for k := range zones {
		x.leaves.add(k)
	}
	if a := x.s.Mgr().Arena(); a.Len() != len(x.held) || x.s.Table().Len() != len(x.leaves) {
		x.t.Fatal("P10.3:", call, "leaves", a.Len(), "nodes and", x.s.Table().Len(), "zones, where", len(x.held), "and", len(x.leaves), "are needed")
	}
	if _, is := x.refs[root]; !is {
		x.refs[root] = ref
		x.list = append(x.list, want)
	}
}

// looked fails, if At tells another zone than it should of some bits.
func (x *model) looked(call string, ref int, want *table) {
	x.t.Helper()
	for n := uint(0); n < 1<<12; n += 61 {
		if z := x.s.At(ref, n|n<<50); !alikeZones(z, x.zones[want[n]]) {
			x.t.Fatal("P10.1: At of", call, n, "is", zone.Text(z), "not", zone.Text(x.zones[want[n]]))
		}
	}
}

// alikeZones tells whether two zones are the same, as they lie there.
func alikeZones(y, z zone.Zone) bool { return y.N == z.N && slices.Equal(y.D, z.D) }

// failed fails, if a call for which there is no room told another error than it should, or changed more than it may.
func (x *model) failed(call string, ref int, e error, nodes, zones set) {
	x.t.Helper()
	if len(x.leaves)+len(zones) > x.room {
		x.full[0]++
		isLeafFull(x.t, call, ref, e)
	} else {
		x.full[1]++
		isNodeFull(x.t, call, ref, e)
	}
	for id := len(x.leaves); id < x.s.Table().Len(); id++ {
		k := x.number(x.s.Table().Get(id))
		if !zones.has(k) || x.leaves.has(k) {
			x.t.Fatal("P10.3:", call, "had no room, but left a zone that is not needed")
		}
		x.leaves.add(k)
	}
	for ref := len(x.held); ref < x.s.Mgr().Arena().Len(); ref++ {
		k, _, _ := x.shape(x.read(ref))
		if !nodes.has(k) || x.held.has(k) {
			x.t.Fatal("P10.3:", call, "had no room, but left a node that is not needed")
		}
		x.held.add(k)
	}
	x.stay(call)
}

// stay fails, if a diagram that was told is another one now.
func (x *model) stay(call string) {
	x.t.Helper()
	for _, want := range x.list {
		ref := x.ref(want)
		if !x.s.Is(ref) || *x.read(ref) != *want {
			x.t.Fatal("P10.3: behind", call, "the diagram", ref, "is not what it was")
		}
	}
}

// ref is that of a table that was told.
func (x *model) ref(y *table) int {
	root, _, _ := x.shape(y)
	return x.refs[root]
}

// isLeafFull fails, if a call does not tell that there is no room for a zone.
func isLeafFull(t *testing.T, call string, ref int, e error) {
	t.Helper()
	if ref != 0 || e == nil || !errors.Is(e, api.ErrLeafFull) {
		t.Fatal("P10.3:", call, "has no room for a zone, but is", ref, e)
	}
}

// isNodeFull fails, if a call does not tell that there is no room for a node.
func isNodeFull(t *testing.T, call string, ref int, e error) {
	t.Helper()
	var f *node.Fault
	if ref != 0 || !errors.As(e, &f) || !errors.Is(e, api.ErrNodeFull) {
		t.Fatal("P10.3:", call, "has no room for a node, but is", ref, e)
	}
}

// isArg fails, if a call does not tell that it was asked something wrong.
func isArg(t *testing.T, call string, ref int, e error) {
	t.Helper()
	if ref != 0 || e == nil || !errors.Is(e, api.ErrArg) {
		t.Error("P10:", call, "of what is wrong is", ref, e)
	}
}

// dice tells numbers that look like chance, always the same ones.
type dice uint64

func (d *dice) below(n int) int {
	*d = *d*6364136223846793005 + 1442695040888963407
	return int(uint64(*d) >> 33 % uint64(n))
}

// pool are zones of n variables.
func pool(n int) []zone.Zone {
	l := []zone.Zone{zone.Top(n), zone.Bottom(n)}
	for i := 1; i <= n; i++ {
		l = append(l, zone.Set(zone.Top(n), i, span.Span{Low: 0, High: 3}), zone.Set(zone.Top(n), i, span.Span{Low: -i, High: 9}), zone.Guard(zone.Top(n), i, i%n+1, i-3))
		l = append(l, zone.Set(zone.Set(zone.Top(n), 1, span.Span{Low: 5, High: 9}), i, span.Span{Low: 2 * i, High: 14}), zone.Guard(zone.Top(n), i, 0, api.Max-1))
	}
	return l
}

// ways are what Map is asked for, some of what they tell not right.
func ways(n int) []func(z zone.Zone) zone.Zone {
	return []func(z zone.Zone) zone.Zone{
		func(z zone.Zone) zone.Zone { return z },
		func(z zone.Zone) zone.Zone { return zone.Copy(z, 1, 1, 1) },
		func(z zone.Zone) zone.Zone { return zone.Forget(z, 1) },
		func(z zone.Zone) zone.Zone { return zone.Guard(z, min(n, 2), 0, 4) },
		func(z zone.Zone) zone.Zone { return zone.Set(z, n, span.Span{Low: -3, High: 6}) },
		func(z zone.Zone) zone.Zone {
			if len(z.D) == 0 {
				return zone.Top(n)
			}
			return zone.Bottom(n)
		},
		func(z zone.Zone) zone.Zone { return zone.Zone{N: n, D: slices.Repeat([]int{7}, (n+1)*(n+1))} },
	}
}

// stepLists are what Widen is asked for.
func stepLists() [][]int { return [][]int{nil, {0, 5, 20}, {-4, 9, api.Max, -api.Max - 1}, {10, -10}} }

// vars makes the diagrams of some bits.
func (x *model) vars(vs ...int) {
	x.t.Helper()
	for _, v := range vs {
		ref, e := x.s.Mgr().Var(v)
		x.told("Var", ref, e, bit(v))
	}
}

// any is one of the tables that were told.
func (x *model) any(d *dice) *table { return x.list[d.below(len(x.list))] }

// anyBool is one of those that are booleans.
func (x *model) anyBool(d *dice) *table {
	for {
		if y := x.any(d); isBool(y) {
			return y
		}
	}
}

// leaf asks for a zone of the pool.
func (x *model) leaf(d *dice) {
	x.t.Helper()
	l := pool(x.s.Table().N())
	z := l[d.below(len(l))]
	ref, e := x.s.Leaf(z)
	x.told("Leaf", ref, e, x.flat(z))
}

// move makes one call more, of what was told; of variables it takes those of vs.
func (x *model) move(d *dice, vs []int) {
	x.t.Helper()
	n, y, z, g, v, b := x.s.Table().N(), x.any(d), x.any(d), x.anyBool(d), vs[d.below(len(vs))], d.below(2) == 1
	switch s := x.s; d.below(12) {
	case 0:
		x.leaf(d)
	case 1, 2:
		ref, e := s.Join(x.ref(y), x.ref(z))
		x.told("Join", ref, e, x.both(0, y, z, zone.Join))
	case 3:
		ref, e := s.Meet(x.ref(y), x.ref(z))
		x.told("Meet", ref, e, x.both(1, y, z, zone.Meet))
	case 4:
		k := d.below(len(stepLists()))
		steps := stepLists()[k]
		ref, e := s.Widen(x.ref(y), x.ref(z), steps)
		x.told("Widen", ref, e, x.both(2+k, y, z, func(a, b zone.Zone) zone.Zone { return zone.Widen(a, b, steps) }))
	case 5:
		f := ways(n)[d.below(len(ways(n)))]
		ref, e := s.Map(x.ref(y), f)
		x.told("Map", ref, e, x.mapped(y, f))
	case 6, 7:
		ref, e := s.Cut(x.ref(y), x.ref(g))
		x.told("Cut", ref, e, cut(y, g))
	case 8:
		ref, e := s.Half(x.ref(y), v, b)
		x.told("Half", ref, e, half(y, v, b))
	case 9:
		ref, e := s.Forget(x.ref(y), v)
		x.told("Forget", ref, e, x.forget(y, v))
	default:
		ref, e := s.Put(x.ref(y), v, x.ref(g))
		x.told("Put", ref, e, x.put(y, v, g))
	}
}

// leqs fails, if Leq of two that were told is not what it is for all bits.
func (x *model) leqs(d *dice) {
	x.t.Helper()
	y, z := x.any(d), x.any(d)
	want := true
	for n := range y {
		want = want && x.leq(y[n], z[n])
	}
	if got := x.s.Leq(x.ref(y), x.ref(z)); got != want {
		x.t.Fatal("P10.2: Leq of", x.ref(y), x.ref(z), "is", got)
	}
}

// leq is zone's of zones a and b.
func (x *model) leq(a, b int) bool {
	k := [2]int{a, b}
	if _, is := x.lies[k]; !is {
		x.lies[k] = 0
		if zone.Leq(x.zones[a], x.zones[b]) {
			x.lies[k] = 1
		}
	}
	return x.lies[k] == 1
}

// all are the variables that there may be.
func all() []int { return []int{0, 1, 2, 3, 4, 5, 6, 7, 8, 9, 10, 11} }
