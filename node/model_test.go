package node

import (
	"errors"
	"math"
	"testing"

	"helmsman/api"
)

// model is an arena by the chapter's words: a list that is looked through from its start.
type model struct {
	limit int
	held  []Node
}

func (m *model) has(ref int) bool {
	if ref >= 0 {
		return ref < len(m.held)
	}
	return ref >= -1-(1<<40)
}

func (m *model) v(ref int) int {
	if ref < 0 || ref >= len(m.held) {
		return 12
	}
	return m.held[ref].V
}

// mk tells what Mk has to, with the error bare.
func (m *model) mk(v, low, high int) (int, api.Errno) {
	if v < 0 || v > 11 {
		return 0, api.ErrNodeVar
	}
	for _, ref := range []int{low, high} {
		if !m.has(ref) || m.v(ref) <= v {
			return 0, api.ErrNodeOrder
		}
	}
	if low == high {
		return low, api.OK
	}
	for ref, n := range m.held {
		if n.V == v && n.Low == low && n.High == high {
			return ref, api.OK
		}
	}
	if len(m.held) >= m.limit {
		return 0, api.ErrNodeFull
	}
	m.held = append(m.held, Node{v, low, high})
	return len(m.held) - 1, api.OK
}

func (m *model) walk(ref int, bits uint) int {
	if ref < 0 || ref >= len(m.held) {
		return ref
	}
	n := m.held[ref]
	if bits&(1<<n.V) != 0 {
		return m.walk(n.High, bits)
	}
	return m.walk(n.Low, bits)
}

// agree fails, if the arena tells anything else than the model.
func agree(t *testing.T, a *Arena, m *model) {
	t.Helper()
	if a.Len() != len(m.held) || a.Limit() != m.limit {
		t.Fatal("P5.1: Len and Limit:", a.Len(), a.Limit(), "not", len(m.held), m.limit)
	}
	for ref, want := range m.held {
		if n, is := a.Get(ref); n != want || !is || a.Var(ref) != want.V || !a.Has(ref) {
			t.Fatal("P5.1, P5.3: node", ref, "is", n, is, a.Var(ref), a.Has(ref), "not", want)
		}
	}
	for _, ref := range none(len(m.held)) {
		if n, is := a.Get(ref); n != (Node{}) || is || a.Var(ref) != 12 || a.Has(ref) || a.Walk(ref, 5) != ref {
			t.Fatal("P5.1: of no node:", ref, n, is, a.Var(ref), a.Has(ref), a.Walk(ref, 5))
		}
	}
	for _, ref := range terms() {
		if n, is := a.Get(ref); n != (Node{}) || is || a.Var(ref) != 12 || !a.Has(ref) || a.Walk(ref, 5) != ref {
			t.Fatal("P5.1: of a terminal:", ref, n, is, a.Var(ref), a.Has(ref), a.Walk(ref, 5))
		}
	}
}

// mk asks both for a node, and fails, if they tell it otherwise.
func mk(t *testing.T, a *Arena, m *model, v, low, high int) {
	t.Helper()
	ref, e := a.Mk(v, low, high)
	want, wantE := m.mk(v, low, high)
	is(t, v, ref, e, want, wantE)
	if a.Len() != len(m.held) {
		t.Fatal("P5.2: Mk of", v, low, high, "leaves", a.Len(), "not", len(m.held))
	}
}

// is fails, if a ref and an error of a Mk of v are others than they should be.
func is(t *testing.T, v, ref int, e error, want int, wantE api.Errno) {
	t.Helper()
	if ref != want || (e == nil) != (wantE == api.OK) {
		t.Fatal("P5.2: Mk of", v, "is", ref, e, "not", want, int(wantE))
	}
	if e == nil {
		return
	}
	f, fault := e.(*Fault)
	if !fault || f.Op != "mk" || f.V != v || f.Err != error(wantE) || f.Unwrap() != error(wantE) {
		t.Fatal("P5.2: Mk of", v, "has the error", e, "not a Fault of", int(wantE))
	}
	if !errors.Is(e, wantE) || e.Error() != "node mk "+wantE.Error() {
		t.Fatal("P5.2: the Fault of", v, "tells", e.Error())
	}
}

// none are some refs of nothing, where there are so many nodes.
func none(held int) []int {
	return []int{held, held + 1, held + 1<<32, math.MaxInt, -2 - (1 << 40), -3 - (1 << 40), -1 << 62, math.MinInt, math.MinInt + 1}
}

// terms are some terminals, the first and the last among them.
func terms() []int { return []int{-1, -2, -3, -1 << 32, -(1 << 40), -1 - (1 << 40)} }

// limits are some that an arena may have.
func limits() []int { return []int{0, 1, 2, 7, 16, 17, 300} }
