package sweep

import (
	"errors"
	"math"
	"slices"
	"testing"

	"helmsman/api"
	"helmsman/node"
)

// arena makes one of that limit which holds these nodes, in order.
func arena(t *testing.T, limit int, nodes ...node.Node) *node.Arena {
	t.Helper()
	a := node.New(limit)
	for ref, n := range nodes {
		if got, e := a.Mk(n.V, n.Low, n.High); got != ref || e != nil {
			t.Fatal("P5.2: Mk of", n, "is", got, e, "not", ref)
		}
	}
	return a
}

// small is an arena in which 5 is over 3, 4 and 0; 4 over 0, 2 over 1, and 6 stands alone.
func small(t *testing.T) *node.Arena {
	t.Helper()
	return arena(t, 9, node.Node{V: 7, Low: -1, High: -2}, node.Node{V: 8, Low: -3, High: -1}, node.Node{V: 6, Low: 1, High: -2},
		node.Node{V: 11, Low: -9, High: -1 - (1 << 40)}, node.Node{V: 5, Low: -1, High: 0}, node.Node{V: 1, Low: 3, High: 4}, node.Node{V: 0, Low: -2, High: -1})
}

// chain is an arena of all variables, each node over the one before.
func chain(t *testing.T) *node.Arena {
	t.Helper()
	var nodes []node.Node
	for v := 11; v >= 0; v-- {
		nodes = append(nodes, node.Node{V: v, Low: node.Term(v), High: 10 - v})
	}
	return arena(t, 12, nodes...)
}

// parity is an arena of two nodes of each variable, each over both of the next one: 23 is over all but 22.
func parity(t *testing.T) *node.Arena {
	t.Helper()
	nodes := []node.Node{{V: 11, Low: -1, High: -2}, {V: 11, Low: -2, High: -1}}
	for v := 10; v >= 0; v-- {
		even, odd := len(nodes)-2, len(nodes)-1
		nodes = append(nodes, node.Node{V: v, Low: even, High: odd}, node.Node{V: v, Low: odd, High: even})
	}
	return arena(t, 99, nodes...)
}

// woven is an arena whose nodes have any two of the refs of greater variables.
func woven(t *testing.T, seed uint64, each int) *node.Arena {
	t.Helper()
	a := node.New(500)
	refs := []int{node.Term(0), node.Term(1), node.Term(3), node.Term(1 << 40)}
	for v := 11; v >= 0; v-- {
		below := uint64(len(refs))
		for range each {
			seed = seed*6364136223846793005 + 1442695040888963407
			ref, e := a.Mk(v, refs[seed>>32%below], refs[seed>>46%below])
			if e != nil {
				t.Fatal("P5.2: the error of Mk is", e)
			}
			refs = append(refs, ref)
		}
	}
	return a
}

// arenas are some of all kinds.
func arenas(t *testing.T) []*node.Arena {
	t.Helper()
	list := []*node.Arena{node.New(0), node.New(5), small(t), chain(t), parity(t)}
	for seed := range uint64(6) {
		list = append(list, woven(t, seed, 2+int(seed)/2))
	}
	return list
}

// choices are some lists of refs that an arena has, among them none, and some twice.
func choices(a *node.Arena) [][]int {
	lists := [][]int{nil, {}, {-1}, {-2, -1, -2, -1 - (1 << 40)}}
	var rising, falling, third []int
	for ref := range a.Len() {
		lists = append(lists, []int{ref}, []int{ref, -5, ref / 2, ref})
		rising = append(rising, ref)
		falling = append(falling, a.Len()-1-ref)
		if ref%3 == 1 {
			third = append(third, ref)
		}
	}
	return append(lists, rising, falling, third)
}

// TestChapter goes through the chapter's example.
func TestChapter(t *testing.T) {
	a := arena(t, 9, node.Node{V: 3, Low: -1, High: -2}, node.Node{V: 1, Low: 0, High: -1}, node.Node{V: 2, Low: 0, High: -2}, node.Node{V: 5, Low: -1, High: -2}, node.Node{V: 0, Low: 2, High: 3})
	b, refs, e := Compact(a, []int{1}, 9)
	if e != nil || !slices.Equal(refs, []int{1}) {
		t.Fatal("P9.3: Compact of the example is", refs, e)
	}
	stays(t, b, list{9, []node.Node{{V: 3, Low: -1, High: -2}, {V: 1, Low: 0, High: -1}}})
	follows(t, a, b, []int{1}, refs)
}

func TestMarkTold(t *testing.T) {
	a := small(t)
	for _, x := range []struct {
		roots []int
		marks string
	}{
		{nil, "......."}, {[]int{0}, "x......"}, {[]int{1}, ".x....."}, {[]int{2}, ".xx...."}, {[]int{3}, "...x..."}, {[]int{4}, "x...x.."}, {[]int{5}, "x..xxx."}, {[]int{6}, "......x"},
		{[]int{5, 2}, "xxxxxx."}, {[]int{2, 5, 2}, "xxxxxx."}, {[]int{6, 5, 2}, "xxxxxxx"}, {[]int{1, 6, 3}, ".x.x..x"},
		{[]int{-1, -2, -1 - (1 << 40)}, "......."}, {[]int{7}, "......."}, {[]int{7, 2, 8}, ".xx...."}, {[]int{math.MaxInt, 6, math.MinInt}, "......x"},
		{[]int{1 << 32, 1<<32 + 2, -2 - (1 << 40)}, "......."},
	} {
		want, dead := make([]bool, 7), 0
		for ref, sign := range x.marks {
			want[ref] = sign == 'x'
			if sign != 'x' {
				dead++
			}
		}
		if got := Mark(a, x.roots); !slices.Equal(got, want) {
			t.Error("P9.1: Mark of", x.roots, "is", got)
		}
		if got := Dead(a, x.roots); got != dead {
			t.Error("P9.1: Dead of", x.roots, "is", got, "not", dead)
		}
	}
}

// TestMark holds Mark and Dead of many arenas against what is met on the ways from the roots.
func TestMark(t *testing.T) {
	for _, a := range arenas(t) {
		for _, roots := range choices(a) {
			marked(t, a, roots...)
			for _, f := range strangers(a.Len()) {
				marked(t, a, append([]int{f}, roots...)...)
				marked(t, a, append(roots[:len(roots):len(roots)], f)...)
			}
		}
	}
}

// TestMarkOwn: what Mark tells is the caller's own.
func TestMarkOwn(t *testing.T) {
	a := small(t)
	first := Mark(a, []int{5})
	clear(first)
	if again := Mark(a, []int{5}); !slices.Equal(again, []bool{true, false, false, true, true, true, false}) {
		t.Error("R6: Mark, told again, is", again)
	}
}

func TestMoveTold(t *testing.T) {
	a := small(t)
	for _, x := range []struct {
		there []node.Node
		f     int
		ref   int
		then  []node.Node
	}{
		{nil, 1, 0, []node.Node{{V: 8, Low: -3, High: -1}}},
		// First the Low, then the High, then the node, whatever their numbers were.
		{nil, 5, 3, []node.Node{{V: 11, Low: -9, High: -1 - (1 << 40)}, {V: 7, Low: -1, High: -2}, {V: 5, Low: -1, High: 1}, {V: 1, Low: 0, High: 2}}},
		// What there is stays under its number, and is not made again.
		{[]node.Node{{V: 3, Low: -2, High: -4}, {V: 7, Low: -1, High: -2}}, 4, 2, []node.Node{{V: 3, Low: -2, High: -4}, {V: 7, Low: -1, High: -2}, {V: 5, Low: -1, High: 1}}},
		{[]node.Node{{V: 7, Low: -1, High: -2}, {V: 5, Low: -1, High: 0}}, 4, 1, []node.Node{{V: 7, Low: -1, High: -2}, {V: 5, Low: -1, High: 0}}},
		// A node of the same number and variable, but of other children, is another one.
		{[]node.Node{{V: 7, Low: -2, High: -1}}, 0, 1, []node.Node{{V: 7, Low: -2, High: -1}, {V: 7, Low: -1, High: -2}}},
		{nil, -1, -1, nil}, {nil, -8, -8, nil}, {nil, -1 - (1 << 40), -1 - (1 << 40), nil},
	} {
		to := arena(t, 9, x.there...)
		if ref, e := Move(a, to, x.f); ref != x.ref || e != nil {
			t.Error("P9.2: Move of", x.f, "is", ref, e, "not", x.ref)
		}
		stays(t, to, list{9, x.then})
		leads(t, a, to, x.f, x.ref)
	}
}

// TestMove moves all refs of many arenas into one another, while there is room, and where there is none.
func TestMove(t *testing.T) {
	for _, a := range arenas(t) {
		for _, there := range []*node.Arena{node.New(0), node.New(1), node.New(7), node.New(500), small(t), parity(t), a} {
			to := there.Copy()
			for ref := range a.Len() {
				// The last ones are above many others, so they come first.
				moved(t, a, to, a.Len()-1-ref)
				moved(t, a, to, node.Term(ref))
			}
			for _, f := range append(strangers(a.Len()), -1, -1-(1<<40)) {
				moved(t, a, to, f)
			}
		}
	}
}

// TestMoveFull: of each limit that may be, what there is no room for is told, and what there is room for is moved.
func TestMoveFull(t *testing.T) {
	for _, a := range arenas(t) {
		for f := range a.Len() {
			for limit := -1; limit <= 16; limit++ {
				moved(t, a, node.New(limit), f)
			}
		}
	}
	a := small(t)
	for limit, full := range []int{11, 7, 5, 1} {
		to := node.New(limit)
		ref, e := Move(a, to, 5)
		faulted(t, e, full)
		if ref != 0 {
			t.Error("R1: Move of 5 into an arena of", limit, "is", ref)
		}
	}
	// All that f needs is there, so no room is needed.
	to := arena(t, 1, node.Node{V: 8, Low: -3, High: -1})
	if ref, e := Move(a, to, 1); ref != 0 || e != nil {
		t.Error("P9.2: Move into a full arena that has it is", ref, e)
	}
}

// TestMoveWithin: an arena may be moved into itself, and stays.
func TestMoveWithin(t *testing.T) {
	for _, a := range arenas(t) {
		was := read(a)
		for f := range a.Len() {
			if ref, e := Move(a, a, f); ref != f || e != nil {
				t.Error("P9.2: Move of", f, "into its own arena is", ref, e)
			}
		}
		for _, f := range strangers(a.Len()) {
			moved(t, a, a, f)
		}
		stays(t, a, was)
	}
}

// TestMoveRefused: a ref that a has not is refused, though the other arena has it, or has no room.
func TestMoveRefused(t *testing.T) {
	a := small(t)
	for _, to := range []*node.Arena{parity(t), node.New(0), node.New(99)} {
		was := read(to)
		for _, f := range append(strangers(a.Len()), 8, 20) {
			ref, e := Move(a, to, f)
			refused(t, e)
			if ref != 0 {
				t.Error("R1: Move of", f, "is", ref)
			}
		}
		stays(t, to, was)
	}
}

func TestCompactTold(t *testing.T) {
	a := small(t)
	for _, x := range []struct {
		roots, refs []int
		nodes       []node.Node
	}{
		{nil, nil, nil},
		{[]int{-1, -9, -1}, []int{-1, -9, -1}, nil},
		{[]int{6}, []int{0}, []node.Node{{V: 0, Low: -2, High: -1}}},
		{[]int{4, 2, 0}, []int{1, 3, 0}, []node.Node{{V: 7, Low: -1, High: -2}, {V: 5, Low: -1, High: 0}, {V: 8, Low: -3, High: -1}, {V: 6, Low: 2, High: -2}}},
		{[]int{2, -3, 4, 2}, []int{1, -3, 3, 1}, []node.Node{{V: 8, Low: -3, High: -1}, {V: 6, Low: 0, High: -2}, {V: 7, Low: -1, High: -2}, {V: 5, Low: -1, High: 2}}},
		{[]int{5}, []int{3}, []node.Node{{V: 11, Low: -9, High: -1 - (1 << 40)}, {V: 7, Low: -1, High: -2}, {V: 5, Low: -1, High: 1}, {V: 1, Low: 0, High: 2}}},
	} {
		for _, limit := range []int{len(x.nodes), len(x.nodes) + 1, 1 << 33, math.MaxInt} {
			b, refs, e := Compact(a, x.roots, limit)
			if e != nil || !slices.Equal(refs, x.refs) {
				t.Fatal("P9.3: Compact of", x.roots, limit, "is", refs, e, "not", x.refs)
			}
			stays(t, b, list{limit, x.nodes})
			follows(t, a, b, x.roots, refs)
		}
		compacted(t, a, len(x.nodes)-1, x.roots...)
	}
}

// TestCompact compacts many arenas by many roots, with room for all, just enough, one too few, and none.
func TestCompact(t *testing.T) {
	for _, a := range arenas(t) {
		for _, roots := range choices(a) {
			needed := a.Len() - Dead(a, roots)
			for _, limit := range []int{500, needed, needed - 1, needed / 2, 0, -1, math.MinInt} {
				compacted(t, a, limit, roots...)
			}
		}
	}
}

// TestCompactRefused: one root that there is not is refused, wherever it stands, and whether there is room or not.
func TestCompactRefused(t *testing.T) {
	for _, a := range []*node.Arena{node.New(0), small(t), parity(t)} {
		for _, f := range strangers(a.Len()) {
			for _, roots := range [][]int{{f}, {-1, f}, {a.Len() - 1, f}, {f, 0, -1}, {0, f, a.Len() - 1}} {
				for _, limit := range []int{-1, 0, 1, 99} {
					b, refs, e := Compact(a, roots, limit)
					refused(t, e)
					if b != nil || len(refs) != 0 || errors.Is(e, api.ErrNodeFull) {
						t.Error("P9.3: Compact of", roots, limit, "is", b, refs, e)
					}
					compacted(t, a, limit, roots...)
				}
			}
		}
	}
}

// TestCompactOwn: the new arena, and the refs, are the caller's own.
func TestCompactOwn(t *testing.T) {
	a := small(t)
	was, roots := read(a), []int{5, 2, -1}
	b, refs, e := Compact(a, roots, 7)
	if e != nil || b == a {
		t.Fatal("P9.3: Compact is no new arena:", b == a, e)
	}
	then := read(b)
	if _, e := b.Mk(9, -1, -7); e != nil {
		t.Error("P9.3: the new arena has no room:", e)
	}
	if _, e := b.Mk(9, -1, -8); !errors.Is(e, api.ErrNodeFull) {
		t.Error("P9.3: the new arena has more room than its limit:", e)
	}
	clear(refs)
	stays(t, a, was)
	if !slices.Equal(roots, []int{5, 2, -1}) {
		t.Error("R6: the roots are", roots)
	}
	a.Mk(9, -1, -9)
	c, again, e := Compact(a, roots, 7)
	if e != nil || !slices.Equal(again, []int{3, 5, -1}) {
		t.Error("R7: Compact, told again, is", again, e)
	}
	stays(t, c, then)
}

// TestFaultOwn: each error of no room is the caller's own.
func TestFaultOwn(t *testing.T) {
	a := small(t)
	for range 2 {
		_, e := Move(a, node.New(0), 2)
		_, _, wrong := Compact(a, []int{2}, 0)
		for _, e := range []error{e, wrong} {
			faulted(t, e, 8)
			var f *node.Fault
			if errors.As(e, &f) {
				*f = node.Fault{Op: "other"}
			}
		}
	}
}
