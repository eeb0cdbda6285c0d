package sweep

import (
	"errors"
	"math"
	"slices"
	"testing"

	"helmsman/api"
	"helmsman/node"
)

// list is an arena's nodes, by the chapter's words: what is put into it is looked for from its start.
type list struct {
	limit int
	nodes []node.Node
}

// read lists what an arena holds.
func read(a *node.Arena) list {
	l := list{limit: a.Limit()}
	for ref := range a.Len() {
		n, _ := a.Get(ref)
		l.nodes = append(l.nodes, n)
	}
	return l
}

// has: is f a terminal of 0 to 2^40, or a node of l?
func (l list) has(f int) bool { return f < len(l.nodes) && f >= -1-(1<<40) }

// below puts f, if it is a node, and all nodes below it into held.
func (l list) below(f int, held map[int]bool) {
	if l.has(f) && f >= 0 {
		held[f] = true
		l.below(l.nodes[f].Low, held)
		l.below(l.nodes[f].High, held)
	}
}

// marks tells what Mark has to.
func (l list) marks(roots []int) []bool {
	held := map[int]bool{}
	for _, f := range roots {
		l.below(f, held)
	}
	marks := make([]bool, len(l.nodes))
	for f := range held {
		marks[f] = true
	}
	return marks
}

// put moves f of another list into l. It tells the ref there, and -1; or, where there is no room, 0 and the variable
// of the node that has none.
func (l *list) put(from list, f int) (ref, full int) {
	if f < 0 {
		return f, -1
	}
	n := from.nodes[f]
	low, full := l.put(from, n.Low)
	if full >= 0 {
		return 0, full
	}
	high, full := l.put(from, n.High)
	if full >= 0 {
		return 0, full
	}
	n.Low, n.High = low, high
	if ref = slices.Index(l.nodes, n); ref >= 0 {
		return ref, -1
	}
	if len(l.nodes) >= l.limit {
		return 0, n.V
	}
	l.nodes = append(l.nodes, n)
	return len(l.nodes) - 1, -1
}

// all puts some refs, one after the other.
func (l *list) all(from list, roots []int) (refs []int, full int) {
	for _, f := range roots {
		ref, full := l.put(from, f)
		if full >= 0 {
			return nil, full
		}
		refs = append(refs, ref)
	}
	return refs, -1
}

// stays fails, if an arena is not what it was.
func stays(t *testing.T, a *node.Arena, was list) {
	t.Helper()
	if now := read(a); now.limit != was.limit || !slices.Equal(now.nodes, was.nodes) {
		t.Fatal("R2, R5: the arena is", now, "and was", was)
	}
}

// marked asks Mark and Dead, and fails, if they tell other than the list.
func marked(t *testing.T, a *node.Arena, roots ...int) {
	t.Helper()
	was, given := read(a), slices.Clone(roots)
	want, dead := was.marks(roots), 0
	for _, is := range want {
		if !is {
			dead++
		}
	}
	if got := Mark(a, roots); !slices.Equal(got, want) {
		t.Fatal("P9.1: Mark of", given, "is", got, "not", want)
	}
	if got := Dead(a, roots); got != dead {
		t.Fatal("P9.1: Dead of", given, "is", got, "not", dead)
	}
	if !slices.Equal(roots, given) {
		t.Fatal("R5: the roots are", roots, "and were", given)
	}
	stays(t, a, was)
}

// moved asks Move, and fails, if it tells or makes other than the list.
func moved(t *testing.T, a, to *node.Arena, f int) {
	t.Helper()
	was, there := read(a), read(to)
	ref, e := Move(a, to, f)
	if !was.has(f) {
		refused(t, e)
		if ref != 0 {
			t.Fatal("R1: Move of", f, "is", ref, e)
		}
		stays(t, to, there)
		return
	}
	want := list{there.limit, slices.Clone(there.nodes)}
	wantRef, full := want.put(was, f)
	if ref != wantRef {
		t.Fatal("P9.2: Move of", f, "is", ref, e, "not", wantRef)
	}
	if full >= 0 {
		faulted(t, e, full)
		held(t, was, there, read(to), f)
		return
	}
	if e != nil {
		t.Fatal("P9.2: Move of", f, "has the error", e)
	}
	stays(t, to, want)
	leads(t, a, to, f, ref)
	if a != to {
		stays(t, a, was)
	}
}

// held fails, if an arena that had no room for f has not all that there was, or has more than some of what f needs.
func held(t *testing.T, from, there, now list, f int) {
	t.Helper()
	needed := list{math.MaxInt, slices.Clone(there.nodes)}
	needed.put(from, f)
	if len(now.nodes) > now.limit || now.limit != there.limit || len(now.nodes) < len(there.nodes) {
		t.Fatal("R2: where there was no room for", f, "the arena is", now, "and was", there)
	}
	for ref, n := range now.nodes {
		if n != needed.nodes[ref] {
			t.Fatal("R2: where there was no room for", f, "node", ref, "is", n, "not", needed.nodes[ref])
		}
	}
}

// leads fails, if some bits do not lead from ref of to where they lead from f of a.
func leads(t *testing.T, a, to *node.Arena, f, ref int) {
	t.Helper()
	for bits := range uint(1 << api.MaxBits) {
		if x, y := a.Walk(f, bits), to.Walk(ref, bits); x != y {
			t.Fatal("P9.4:", bits, "leads from", f, "to", x, "and from", ref, "to", y)
		}
	}
}

// compacted asks Compact, and fails, if it tells or makes other than the list.
func compacted(t *testing.T, a *node.Arena, limit int, roots ...int) {
	t.Helper()
	was, given := read(a), slices.Clone(roots)
	b, refs, e := Compact(a, roots, limit)
	stays(t, a, was)
	if !slices.Equal(roots, given) {
		t.Fatal("R5: the roots are", roots, "and were", given)
	}
	want := list{limit: max(limit, 0)}
	strange := slices.ContainsFunc(roots, func(f int) bool { return !was.has(f) })
	if strange {
		refused(t, e)
	}
	full := -1
	var wantRefs []int
	if !strange {
		if wantRefs, full = want.all(was, roots); full >= 0 {
			faulted(t, e, full)
		}
	}
	if strange || full >= 0 {
		if b != nil || len(refs) != 0 {
			t.Fatal("R1, P9.3: Compact of", roots, limit, "is", b, refs, e)
		}
		return
	}
	if e != nil || !slices.Equal(refs, wantRefs) {
		t.Fatal("P9.3: Compact of", roots, limit, "is", refs, e, "not", wantRefs)
	}
	stays(t, b, want)
	follows(t, a, b, roots, refs)
}

// follows fails, if b is not what follows of a that was compacted.
func follows(t *testing.T, a, b *node.Arena, roots, refs []int) {
	t.Helper()
	for i, f := range roots {
		leads(t, a, b, f, refs[i])
	}
	if needed := a.Len() - Dead(a, roots); b.Len() != needed || Dead(b, refs) != 0 {
		t.Fatal("P9.4: compacted by", roots, "it has", b.Len(), "nodes, of which are dead", Dead(b, refs), "and", needed, "are marked")
	}
	c, again, e := Compact(b, refs, b.Limit())
	if e != nil || !slices.Equal(again, refs) {
		t.Fatal("P9.4: compacted once more by", refs, "it is", again, e)
	}
	stays(t, c, read(b))
}

// refused fails, if an error is none of a ref that there is not.
func refused(t *testing.T, e error) {
	t.Helper()
	if !errors.Is(e, api.ErrArg) {
		t.Fatal("P9.2, P9.3: of a ref that there is not the error is", e)
	}
}

// faulted fails, if an error is not Mk's of v, where there is no room.
func faulted(t *testing.T, e error, v int) {
	t.Helper()
	var f *node.Fault
	if !errors.As(e, &f) || f.Op != "mk" || f.V != v || !errors.Is(e, api.ErrNodeFull) {
		t.Fatal("P9.2, P9.3: where there is no room for a node of", v, "the error is", e)
	}
}

// strangers are refs that an arena of so many nodes has not.
func strangers(held int) []int {
	return []int{held, held + 1, held + 1<<32, 1 << 62, math.MaxInt, -2 - (1 << 40), -1 << 41, math.MinInt, math.MinInt + 1}
}
