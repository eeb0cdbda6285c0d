package memo

import (
	"math"
	"testing"
)

func TestNew(t *testing.T) {
	for _, x := range [][2]int{
		{1, 1}, {2, 2}, {10, 10}, {1<<16 - 1, 1<<16 - 1}, {1 << 16, 1 << 16},
		{0, 1}, {-1, 1}, {-1 << 16, 1}, {math.MinInt, 1}, {math.MinInt + 1, 1},
		{1<<16 + 1, 1 << 16}, {1 << 32, 1 << 16}, {1<<32 + 3, 1 << 16}, {math.MaxInt, 1 << 16},
	} {
		m := New(x[0])
		if m == nil {
			t.Fatal("P6.1: New of", x[0], "is nil")
		}
		agree(t, m, newModel(x[1]), keys())
		agree(t, m.Copy(), newModel(x[1]), keys())
	}
}

// TestSlot: what the chapter says, reckoned by hand.
func TestSlot(t *testing.T) {
	for _, x := range []struct {
		size int
		k    Key
		slot int
	}{
		{1, Key{1, 2, 3}, 0},
		{1, Key{math.MaxInt, math.MinInt, -1}, 0},
		{1000, Key{}, 0},
		{1000, Key{0, 0, 999}, 999},
		{1000, Key{0, 0, 1000}, 0},
		{1000, Key{0, 1, 0}, 31},
		{1000, Key{1, 0, 0}, 961},
		{1000, Key{1, 2, 3}, 26},
		{1000, Key{3, 2, 1}, 946},
		{1 << 16, Key{1, 2, 3}, 1026},
		// 2^64 has the rest 616 by 1000, and 1 by 2^16-1.
		{1000, Key{0, 0, -1}, 615},
		{1000, Key{0, -1, 0}, 585},
		{1000, Key{-1, 0, 31}, 686},
		{1<<16 - 1, Key{0, 0, -1}, 0},
		{1<<16 - 1, Key{0, 0, -2}, 1<<16 - 2},
		{1 << 16, Key{0, 0, -1}, 1<<16 - 1},
		{1 << 16, Key{0, 0, math.MinInt}, 0},
		// 31 times 2^63 leaves 2^63, whose rest is 808 by 1000.
		{1000, Key{0, math.MinInt, 0}, 808},
		{1000, Key{math.MinInt, 0, 0}, 808},
		{1000, Key{math.MinInt, math.MinInt, 7}, 7},
		{1000, Key{0, 0, math.MaxInt}, 807},
	} {
		if slot := New(x.size).Slot(x.k); slot != x.slot {
			t.Error("P6.1: Slot of", x.k, "in", x.size, "places is", slot, "not", x.slot)
		}
	}
}

// TestChapter goes through the chapter's example.
func TestChapter(t *testing.T) {
	m := New(1)
	m.Put(Key{1, 2, 3}, 7)
	if v, is := m.Get(Key{1, 2, 3}); v != 7 || !is {
		t.Error("P6.1: Get is", v, is)
	}
	m.Put(Key{0, 0, 0}, 8)
	if v, is := m.Get(Key{1, 2, 3}); v != 0 || is {
		t.Error("P6.1: Get of what another key has put out is", v, is)
	}
	if v, is := m.Get(Key{}); v != 8 || !is || m.Len() != 1 {
		t.Error("P6.1: Get is", v, is, "and Len", m.Len())
	}
}

// TestFree: nothing stands in a free place, not even the key of three zeros; but a value of 0 may stand.
func TestFree(t *testing.T) {
	m := New(5)
	if v, is := m.Get(Key{}); v != 0 || is {
		t.Error("P6.1: Get of an empty memo is", v, is)
	}
	m.Put(Key{}, 0)
	if v, is := m.Get(Key{}); v != 0 || !is || m.Len() != 1 {
		t.Error("P6.1: Get of a value of 0 is", v, is, "and Len", m.Len())
	}
	m.Clear()
	if v, is := m.Get(Key{}); v != 0 || is || m.Len() != 0 {
		t.Error("P6.1: Get of a cleared memo is", v, is, "and Len", m.Len())
	}
}

// TestNearlyAlike: of keys of one place just that one stands which was put last, however alike they are.
func TestNearlyAlike(t *testing.T) {
	// All of these have one sum.
	alike := []Key{{1, 2, 3}, {0, 33, 3}, {0, 32, 34}, {0, 0, 1026}, {1, 1, 34}, {1, 3, -28}, {2, -29, 3}, {-1, 64, 3}}
	for _, size := range sizes() {
		m, x := newModel(size), New(size)
		for i, k := range alike {
			x.Put(k, 100+i)
			m.put(k, 100+i)
			if v, is := x.Get(k); v != 100+i || !is || x.Len() != 1 {
				t.Fatal("P6.2: Get of", k, "is", v, is, "and Len", x.Len())
			}
			agree(t, x, m, alike)
		}
	}
}

// TestPut holds memos of some sizes against the model, with keys that drive one another out, and that come again.
func TestPut(t *testing.T) {
	l := keys()
	for _, size := range sizes() {
		x, m := New(size), newModel(size)
		for round := range 3 {
			for i := range l {
				k := l[(i*7+round)%len(l)]
				value := (i - 900) * (round + 1)
				x.Put(k, value)
				m.put(k, value)
				if v, is := x.Get(k); v != value || !is || x.Len() != len(m.held) {
					t.Fatal("P6.2: Get of", k, "in", size, "places is", v, is, "not", value, "and Len", x.Len(), "not", len(m.held))
				}
			}
			agree(t, x, m, l)
		}
	}
}

// TestNotDisturbed: what is put for one key leaves those of all other places as they are, up to a memo that is full.
func TestNotDisturbed(t *testing.T) {
	for _, size := range []int{1, 2, 10, 97} {
		x := New(size)
		for i := range size {
			x.Put(Key{0, 0, i}, i*i)
			for j := range size {
				v, is := x.Get(Key{0, 0, j})
				if j <= i && (v != j*j || !is) || j > i && (v != 0 || is) {
					t.Fatal("P6.2: in", size, "places, behind", i, "Get of", j, "is", v, is)
				}
			}
			if x.Len() != i+1 {
				t.Fatal("P6.1: Len is", x.Len(), "not", i+1)
			}
		}
		for i := range size {
			x.Put(Key{0, 0, size + i}, -1)
			if _, is := x.Get(Key{0, 0, i}); is || x.Len() != size {
				t.Fatal("P6.1: put out of", size, "places:", i, is, x.Len())
			}
		}
	}
}

// TestValues: all numbers may be values.
func TestValues(t *testing.T) {
	x := New(3)
	for _, value := range []int{0, 1, -1, math.MaxInt, math.MinInt, 1 << 40} {
		x.Put(Key{4, 5, 6}, value)
		if v, is := x.Get(Key{4, 5, 6}); v != value || !is || x.Len() != 1 {
			t.Error("P6.1: Get of", value, "is", v, is, "and Len", x.Len())
		}
	}
}

// TestGetChangesNothing: to ask for a key does not take a place.
func TestGetChangesNothing(t *testing.T) {
	x, m := New(10), newModel(10)
	x.Put(Key{0, 0, 3}, 9)
	m.put(Key{0, 0, 3}, 9)
	for range 2 {
		agree(t, x, m, keys())
	}
}

// TestClear: of a cleared memo nothing is left, and it takes all that is put later.
func TestClear(t *testing.T) {
	l := keys()
	for _, size := range sizes() {
		x := New(size)
		x.Clear()
		agree(t, x, newModel(size), l)
		for round := range 2 {
			m := newModel(size)
			for i, k := range l[round*100 : round*100+500] {
				x.Put(k, i+round)
				m.put(k, i+round)
			}
			agree(t, x, m, l)
			x.Clear()
			agree(t, x, newModel(size), l)
		}
	}
}

// TestCopy: what is put into one of both later, or cleared there, is not so in the other.
func TestCopy(t *testing.T) {
	l := keys()
	for _, size := range sizes() {
		x, m := New(size), newModel(size)
		for i, k := range l[:300] {
			x.Put(k, i)
			m.put(k, i)
		}
		c, n := x.Copy(), m.copy()
		agree(t, c, n, l)
		for i, k := range l[200:600] {
			x.Put(k, -i)
			m.put(k, -i)
		}
		agree(t, c, n, l)
		for i, k := range l[500:900] {
			c.Put(k, 7*i)
			n.put(k, 7*i)
		}
		agree(t, x, m, l)
		d := c.Copy()
		c.Clear()
		agree(t, x, m, l)
		agree(t, c, newModel(size), l)
		agree(t, d, n, l)
		x.Clear()
		agree(t, d, n, l)
	}
}
