package node

import (
	"errors"
	"math"
	"testing"

	"helmsman/api"
)

func TestTerm(t *testing.T) {
	for _, x := range []struct{ k, ref int }{
		{0, -1}, {1, -2}, {2, -3}, {9, -10}, {1 << 32, -1 - (1 << 32)}, {1<<40 - 1, -(1 << 40)}, {1 << 40, -1 - (1 << 40)},
		{1<<40 + 1, -1}, {1 << 41, -1}, {math.MaxInt, -1}, {-1, -1}, {-2, -1}, {-1 << 40, -1}, {math.MinInt, -1}, {math.MinInt + 1, -1},
	} {
		if ref := Term(x.k); ref != x.ref {
			t.Error("P5.1: Term of", x.k, "is", ref)
		}
	}
}

func TestValue(t *testing.T) {
	for _, x := range []struct {
		ref, k int
		is     bool
	}{
		{-1, 0, true}, {-2, 1, true}, {-10, 9, true}, {-(1 << 40), 1<<40 - 1, true}, {-1 - (1 << 40), 1 << 40, true},
		{-2 - (1 << 40), 0, true}, {-1 << 41, 0, true}, {math.MinInt, 0, true},
		{0, 0, false}, {1, 0, false}, {9, 0, false}, {1 << 40, 0, false}, {math.MaxInt, 0, false},
	} {
		if k, is := Value(x.ref), IsTerm(x.ref); k != x.k || is != x.is {
			t.Error("P5.1: Value and IsTerm of", x.ref, "are", k, is)
		}
	}
}

func TestNew(t *testing.T) {
	for _, x := range [][2]int{{0, 0}, {1, 1}, {2, 2}, {-1, 0}, {-5, 0}, {math.MinInt, 0}, {1 << 32, 1 << 32}, {math.MaxInt, math.MaxInt}} {
		a := New(x[0])
		agree(t, a, &model{limit: x[1]})
		agree(t, a.Copy(), &model{limit: x[1]})
	}
}

// TestNone: an arena that may hold nothing has terminals all the same.
func TestNone(t *testing.T) {
	for _, limit := range []int{0, -1, math.MinInt} {
		a := New(limit)
		ref, e := a.Mk(3, Term(5), Term(5))
		is(t, 3, ref, e, Term(5), api.OK)
		ref, e = a.Mk(3, Term(5), Term(6))
		is(t, 3, ref, e, 0, api.ErrNodeFull)
		agree(t, a, &model{})
	}
}

// TestChapter goes through the chapter's example.
func TestChapter(t *testing.T) {
	a := New(9)
	for _, x := range []struct {
		v, low, high, ref int
		e                 api.Errno
	}{{3, Term(0), Term(1), 0, api.OK}, {1, 0, 0, 0, api.OK}, {1, Term(1), 0, 1, api.OK}, {5, 0, Term(0), 0, api.ErrNodeOrder}} {
		ref, e := a.Mk(x.v, x.low, x.high)
		is(t, x.v, ref, e, x.ref, x.e)
	}
	agree(t, a, &model{limit: 9, held: []Node{{3, Term(0), Term(1)}, {1, Term(1), 0}}})
}

// TestMkTold: where several things are so of a node, the one that is named first is told.
func TestMkTold(t *testing.T) {
	a := New(3)
	for i, x := range []struct {
		v, low, high, ref int
		e                 api.Errno
		held              int
	}{
		{11, -1, -2, 0, api.OK, 1},
		{11, -2, -1, 1, api.OK, 2},
		{11, -1, -2, 0, api.OK, 2},
		{0, 0, 1, 2, api.OK, 3},
		{0, 0, 1, 2, api.OK, 3},
		{0, 1, 0, 0, api.ErrNodeFull, 3},
		{0, 1, 1, 1, api.OK, 3},
		{0, -9, -9, -9, api.OK, 3},
		{12, -1, -2, 0, api.ErrNodeVar, 3},
		{-1, -1, -2, 0, api.ErrNodeVar, 3},
		{math.MinInt, -1, -1, 0, api.ErrNodeVar, 3},
		{math.MaxInt, 7, 7, 0, api.ErrNodeVar, 3},
		{1<<32 + 3, -1, -2, 0, api.ErrNodeVar, 3},
		{12, 7, math.MinInt, 0, api.ErrNodeVar, 3},
		{11, 0, -1, 0, api.ErrNodeOrder, 3},
		{11, -1, 0, 0, api.ErrNodeOrder, 3},
		{11, 0, 0, 0, api.ErrNodeOrder, 3},
		{0, 2, -1, 0, api.ErrNodeOrder, 3},
		{0, -1, 2, 0, api.ErrNodeOrder, 3},
		{5, 2, 2, 0, api.ErrNodeOrder, 3},
		{0, 3, -1, 0, api.ErrNodeOrder, 3},
		{0, -1, 3, 0, api.ErrNodeOrder, 3},
		{0, 3, 3, 0, api.ErrNodeOrder, 3},
		{0, math.MaxInt, -1, 0, api.ErrNodeOrder, 3},
		{0, -1, math.MinInt, 0, api.ErrNodeOrder, 3},
		{0, -2 - (1 << 40), -2 - (1 << 40), 0, api.ErrNodeOrder, 3},
		{0, -1, -2 - (1 << 40), 0, api.ErrNodeOrder, 3},
		{0, -1 - (1 << 40), -1 - (1 << 40), -1 - (1 << 40), api.OK, 3},
		{0, -1, -1 - (1 << 40), 0, api.ErrNodeFull, 3},
		{10, 0, 1, 0, api.ErrNodeFull, 3},
	} {
		ref, e := a.Mk(x.v, x.low, x.high)
		is(t, x.v, ref, e, x.ref, x.e)
		if a.Len() != x.held {
			t.Fatal("P5.2: Mk of row", i, "leaves", a.Len())
		}
	}
	agree(t, a, &model{limit: 3, held: []Node{{11, -1, -2}, {11, -2, -1}, {0, 0, 1}}})
}

// TestMk holds arenas of some limits against the model, for nodes that may be and nodes that may not.
func TestMk(t *testing.T) {
	for _, limit := range limits() {
		a, m := New(limit), &model{limit: limit}
		for _, v := range []int{11, 12, 7, 3, 5, 0, -1} {
			refs := append(none(a.Len()), -1, -2, -1-(1<<40))
			for ref := range a.Len() {
				refs = append(refs, ref)
			}
			for _, low := range refs {
				for _, high := range refs {
					mk(t, a, m, v, low, high)
				}
			}
			agree(t, a, m)
		}
	}
}

// TestMany: many nodes are each held once, under the number that they had at first.
func TestMany(t *testing.T) {
	const many = 1 << 18
	a := New(many)
	for round := range 2 {
		for k := range many {
			if ref, e := a.Mk(k%12, Term(k), Term(k/3+many)); ref != k || e != nil {
				t.Fatal("P5.2: round", round, "has", ref, e, "not", k)
			}
		}
	}
	ref, e := a.Mk(0, Term(many), Term(0))
	is(t, 0, ref, e, 0, api.ErrNodeFull)
	for k := range many {
		if n, is := a.Get(k); n != (Node{k % 12, Term(k), Term(k/3 + many)}) || !is {
			t.Fatal("P5.3: node", k, "is", n, is)
		}
	}
}

// TestNearlyAlike: nodes that differ in one number alone, or have the same numbers at other places, are told apart.
func TestNearlyAlike(t *testing.T) {
	a, m := New(9999), &model{limit: 9999}
	for v := range 12 {
		for low := range 12 {
			for high := range 12 {
				mk(t, a, m, v, Term(low), Term(high))
			}
		}
	}
	if a.Len() != 12*12*11 {
		t.Error("P5.2: nearly alike:", a.Len())
	}
	agree(t, a, m)
}

// TestWalk holds Walk against the model, for all bits.
func TestWalk(t *testing.T) {
	a, m := New(99), &model{limit: 99}
	for v := 11; v >= 0; v-- {
		last := a.Len() - 1
		mk(t, a, m, v, Term(v), last)
		mk(t, a, m, v, last, Term(v+100))
	}
	for ref := range a.Len() {
		for bits := range uint(1 << 12) {
			want := m.walk(ref, bits)
			for _, more := range []uint{0, 1 << 12, 1 << 63, math.MaxUint &^ 4095} {
				if got := a.Walk(ref, bits|more); got != want {
					t.Fatal("P5.1: Walk of", ref, bits|more, "is", got, "not", want)
				}
			}
		}
	}
}

// TestWalkTold: the lowest bit is bit 0; a set one leads to High.
func TestWalkTold(t *testing.T) {
	a := New(9)
	a.Mk(11, Term(1), Term(2))
	a.Mk(4, Term(3), 0)
	a.Mk(0, 1, Term(4))
	for _, x := range []struct {
		bits uint
		ref  int
	}{{0, Term(3)}, {1, Term(4)}, {2, Term(3)}, {1 << 4, Term(1)}, {1<<4 + 1, Term(4)}, {1<<11 + 1<<4, Term(2)}, {1 << 11, Term(3)}, {math.MaxUint, Term(4)}, {math.MaxUint - 1, Term(2)}} {
		if ref := a.Walk(2, x.bits); ref != x.ref {
			t.Error("P5.1: Walk of 2,", x.bits, "is", ref)
		}
	}
}

// everything makes all nodes of these variables, the greatest first, over so many terminals; it tells all refs.
func everything(t *testing.T, a *Arena, vars []int, terminals int) []int {
	t.Helper()
	var refs []int
	for k := range terminals {
		refs = append(refs, Term(k))
	}
	for _, v := range vars {
		below := refs
		for _, low := range below {
			for _, high := range below {
				ref, e := a.Mk(v, low, high)
				if e != nil {
					t.Fatal("P5.2: Mk of", v, low, high, "has the error", e)
				}
				if low != high {
					refs = append(refs, ref)
				}
			}
		}
	}
	return refs
}

// TestSame: two refs are the same just if Walk of both tells the same, for all bits.
func TestSame(t *testing.T) {
	for _, x := range []struct {
		vars      []int
		terminals int
	}{{[]int{2, 1, 0}, 2}, {[]int{11, 5, 0}, 2}, {[]int{1, 0}, 3}, {[]int{11, 10}, 5}, {[]int{7}, 20}} {
		a := New(1 << 16)
		refs := everything(t, a, x.vars, x.terminals)
		if again := everything(t, a, x.vars, x.terminals); len(again) != len(refs) || a.Len() != len(refs)-x.terminals {
			t.Error("P5.3: made again:", len(refs), len(again), a.Len())
		}
		of := map[[32]int]int{}
		for _, ref := range refs {
			var tells [32]int
			for i := range 1 << len(x.vars) {
				bits := uint(0)
				for j, v := range x.vars {
					bits |= uint(i>>j&1) << v
				}
				tells[i] = a.Walk(ref, bits)
			}
			if other, is := of[tells]; is {
				t.Fatal("P5.3: both tell the same:", ref, other)
			}
			of[tells] = ref
		}
	}
}

// TestHeldStays: what is held is the same under its number, whatever comes later.
func TestHeldStays(t *testing.T) {
	a, m := New(200), &model{limit: 200}
	for k := range 250 {
		mk(t, a, m, 11-k%12, Term(k), Term(2*k+1))
		agree(t, a, m)
		mk(t, a, m, k-125, k, -k)
		mk(t, a, m, 0, k, Term(3))
		agree(t, a, m)
	}
}

// TestCopy: what comes into one of both later is not in the other.
func TestCopy(t *testing.T) {
	for _, held := range []int{0, 1, 7, 8, 9, 100} {
		a, m := New(held+40), &model{limit: held + 40}
		for k := range held {
			mk(t, a, m, k%12, Term(k), Term(k+1))
		}
		c, n := a.Copy(), &model{limit: m.limit, held: append([]Node(nil), m.held...)}
		agree(t, c, n)
		for k := range 50 {
			mk(t, a, m, k%12, Term(k), Term(k+2))
			agree(t, c, n)
			mk(t, c, n, (k+1)%12, Term(k), Term(k+3))
			agree(t, a, m)
			mk(t, c, n, k%12, Term(k), Term(k+2))
			mk(t, c.Copy(), &model{limit: n.limit, held: n.held[:len(n.held):len(n.held)]}, 5, Term(k), Term(k+7))
		}
		if a.Len() != held+40 || c.Len() != held+40 {
			t.Error("P5.1: a Copy holds another limit:", a.Len(), c.Len())
		}
	}
}

// TestFaultsApart: each Fault is the caller's own.
func TestFaultsApart(t *testing.T) {
	a := New(0)
	for range 2 {
		_, e := a.Mk(3, Term(0), Term(1))
		is(t, 3, 0, e, 0, api.ErrNodeFull)
		var f *Fault
		if !errors.As(e, &f) {
			t.Fatal("P5.2: no Fault:", e)
		}
		*f = Fault{Op: "other", V: 9, Err: api.ErrZero}
		if e.Error() != "node other "+api.ErrZero.Error() || !errors.Is(e, api.ErrZero) || errors.Is(e, api.ErrNodeFull) {
			t.Error("P5.2: a Fault that was written into tells", e.Error())
		}
	}
}

func TestFaultTold(t *testing.T) {
	for _, x := range []struct {
		f    Fault
		text string
	}{
		{Fault{"mk", 3, api.ErrNodeVar}, "node mk helmsman: 52"},
		{Fault{"mk", -1, api.ErrNodeOrder}, "node mk helmsman: 51"},
		{Fault{"", 0, errors.New("why")}, "node  why"},
		{Fault{"a b", 12, &Fault{"mk", 0, api.ErrNodeFull}}, "node a b node mk helmsman: 50"},
		{Fault{"mk", 0, nil}, "node mk "},
	} {
		if text := x.f.Error(); text != x.text {
			t.Error("P5.2: Error tells", text, "not", x.text)
		}
		if e := x.f.Unwrap(); (e == nil) != (x.f.Err == nil) || e != nil && e != x.f.Err {
			t.Error("P5.2: Unwrap tells", e)
		}
	}
}
