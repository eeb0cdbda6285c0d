package memo

import (
	"math"
	"math/big"
	"testing"
)

// stands is what stands in a place.
type stands struct {
	key   Key
	value int
}

// model is a memo by the chapter's words: what stands in the places in which something does.
type model struct {
	size int
	held map[int]stands
}

// newModel is of a size that may be.
func newModel(size int) *model { return &model{size: size, held: map[int]stands{}} }

// slot reckons with numbers that have no end, and drops what has no room in 64 bits.
func (m *model) slot(k Key) int {
	room := new(big.Int).Lsh(big.NewInt(1), 64)
	sum := new(big.Int)
	for _, x := range k {
		sum.Mul(sum, big.NewInt(31))
		sum.Add(sum, big.NewInt(int64(x)))
	}
	// Mod of big tells no rest below 0.
	sum.Mod(sum, room)
	return int(sum.Mod(sum, big.NewInt(int64(m.size))).Int64())
}

func (m *model) put(k Key, value int) { m.held[m.slot(k)] = stands{k, value} }

func (m *model) get(k Key) (int, bool) {
	if s, is := m.held[m.slot(k)]; is && s.key == k {
		return s.value, true
	}
	return 0, false
}

func (m *model) copy() *model {
	c := newModel(m.size)
	for slot, s := range m.held {
		c.held[slot] = s
	}
	return c
}

// agree fails, if the memo tells anything else than the model of these keys.
func agree(t *testing.T, x *Memo, m *model, keys []Key) {
	t.Helper()
	if x.Size() != m.size || x.Len() != len(m.held) {
		t.Fatal("P6.1: Size and Len are", x.Size(), x.Len(), "not", m.size, len(m.held))
	}
	for _, k := range keys {
		if slot := x.Slot(k); slot != m.slot(k) {
			t.Fatal("P6.1: Slot of", k, "in", m.size, "places is", slot, "not", m.slot(k))
		}
		v, is := x.Get(k)
		if wantV, wantIs := m.get(k); v != wantV || is != wantIs {
			t.Fatal("P6.1, P6.2: Get of", k, "in", m.size, "places is", v, is, "not", wantV, wantIs)
		}
	}
}

// keys are of all threes of some numbers, the least and the greatest among them.
func keys() []Key {
	some := []int{0, 1, -1, 2, -3, 30, 31, 961, 1 << 16, 1<<32 + 5, math.MaxInt, math.MinInt, math.MinInt / 31}
	var l []Key
	for _, x := range some {
		for _, y := range some {
			for _, z := range some {
				l = append(l, Key{x, y, z})
			}
		}
	}
	return l
}

// sizes are some that a memo may have, the least and the greatest among them.
func sizes() []int { return []int{1, 2, 3, 7, 10, 31, 64, 1000, 1<<16 - 1, 1 << 16} }
