package count

import (
	"math"
	"slices"
	"testing"

	"helmsman/node"
)

// mk makes a node that may be.
func mk(t *testing.T, a *node.Arena, v, low, high int) int {
	t.Helper()
	f, e := a.Mk(v, low, high)
	if e != nil {
		t.Fatal("P5.2: Mk of", v, low, high, "has the error", e)
	}
	return f
}

// TestChapter goes through the chapter's example.
func TestChapter(t *testing.T) {
	a := node.New(9)
	f := mk(t, a, 0, node.Term(0), mk(t, a, 2, node.Term(0), node.Term(1)))
	if n := Sat(a, f, 1, 3); n != 2 {
		t.Error("P8.1: Sat of the example is", n)
	}
	agree(t, a, f)
}

// small is an arena of few nodes; 4 is over all of them but 1.
func small(t *testing.T) *node.Arena {
	t.Helper()
	a := node.New(9)
	mk(t, a, 2, node.Term(0), node.Term(1))
	mk(t, a, 0, node.Term(0), 0)
	mk(t, a, 3, node.Term(1), node.Term(2))
	mk(t, a, 1, 2, node.Term(0))
	mk(t, a, 0, 3, 0)
	return a
}

func TestSatTold(t *testing.T) {
	a := small(t)
	for _, x := range []struct{ f, value, n, sat int }{
		{1, 1, 3, 2}, {1, 0, 3, 6}, {1, 1, 4, 4}, {1, 1, 12, 1024}, {1, 0, 12, 3072}, {1, 2, 12, 0},
		{4, 0, 4, 8}, {4, 1, 4, 6}, {4, 2, 4, 2}, {4, 2, 5, 4}, {4, 3, 4, 0},
		// The greatest variable is not that of f itself: 3 of 4, 2 of 1.
		{4, 0, 3, 0}, {4, 1, 1, 0}, {1, 0, 2, 0}, {1, 0, 1, 0}, {1, 0, 0, 0}, {0, 0, 2, 0}, {0, 0, 3, 4},
		{1, 1, 13, 0}, {1, 0, 13, 0}, {1, 0, -1, 0}, {1, 0, math.MinInt, 0}, {1, 0, math.MaxInt, 0}, {1, 0, 64, 0}, {1, 0, 1<<32 + 3, 0},
		{-1, 0, 0, 1}, {-1, 0, 3, 8}, {-1, 0, 12, 4096}, {-1, 0, 13, 0}, {-1, 0, -1, 0}, {-1, 1, 3, 0},
		{-3, 2, 0, 1}, {-3, 2, 3, 8}, {-3, 0, 3, 0}, {-3, -3, 3, 0}, {-1, -1, 3, 0}, {0, -1, 3, 0}, {0, 1 << 41, 3, 0},
		{-1 - (1 << 40), 1 << 40, 2, 4}, {-1 - (1 << 40), 0, 2, 0}, {-1, 1<<40 + 1, 2, 0},
		{5, 0, 3, 0}, {9, 0, 3, 0}, {-2 - (1 << 40), 0, 3, 0}, {-2 - (1 << 40), 1<<40 + 1, 3, 0}, {math.MinInt, 0, 0, 0}, {math.MaxInt, 0, 12, 0},
	} {
		if sat := Sat(a, x.f, x.value, x.n); sat != x.sat {
			t.Error("P8.1: Sat of", x.f, x.value, x.n, "is", sat, "not", x.sat)
		}
	}
}

func TestOneTold(t *testing.T) {
	a := small(t)
	// By Low first the way leads to bit 11, by High to bit 0 alone.
	far := mk(t, a, 0, mk(t, a, 11, -1, -6), -6)
	for _, x := range []struct {
		f, value int
		one      uint
		is       bool
	}{
		{1, 1, 5, true}, {1, 0, 0, true}, {0, 1, 4, true}, {4, 0, 1, true}, {4, 1, 0, true}, {4, 2, 8, true}, {far, 5, 1, true}, {far, 0, 0, true},
		{4, 3, 0, false}, {4, -1, 0, false}, {4, -3, 0, false}, {1, 2, 0, false}, {0, 1 << 40, 0, false},
		{-1, 0, 0, true}, {-1, 1, 0, false}, {-3, 2, 0, true}, {-3, 0, 0, false}, {-1 - (1 << 40), 1 << 40, 0, true}, {-1, -1, 0, false},
		{9, 0, 0, false}, {math.MaxInt, 0, 0, false}, {-2 - (1 << 40), 0, 0, false}, {-2 - (1 << 40), 1<<40 + 1, 0, false}, {math.MinInt, 0, 0, false},
	} {
		if one, is := One(a, x.f, x.value); one != x.one || is != x.is {
			t.Error("P8.1: One of", x.f, x.value, "is", one, is, "not", x.one, x.is)
		}
	}
}

func TestValuesTold(t *testing.T) {
	a := small(t)
	// 300 and 1 stand at several ends, and not in order.
	many := mk(t, a, 5, mk(t, a, 6, node.Term(300), node.Term(1)), mk(t, a, 7, node.Term(1<<40), mk(t, a, 8, node.Term(1), node.Term(300))))
	for _, x := range []struct {
		f      int
		values []int
	}{
		{0, []int{0, 1}}, {1, []int{0, 1}}, {2, []int{1, 2}}, {3, []int{0, 1, 2}}, {4, []int{0, 1, 2}}, {many, []int{1, 300, 1 << 40}},
		{-1, []int{0}}, {-3, []int{2}}, {-1 - (1 << 40), []int{1 << 40}},
		{99, nil}, {math.MaxInt, nil}, {-2 - (1 << 40), nil}, {math.MinInt, nil},
	} {
		if values := Values(a, x.f); !slices.Equal(values, x.values) {
			t.Error("P8.1: Values of", x.f, "are", values, "not", x.values)
		}
	}
}

func TestSizeTold(t *testing.T) {
	a := small(t)
	// 5 and 6 are on two ways each; the longest way is that by Low of 0, and High below.
	mk(t, a, 10, -1, -2)
	mk(t, a, 9, -1, 5)
	mk(t, a, 8, 5, 6)
	for _, x := range []struct{ f, size, depth int }{
		{0, 1, 1}, {1, 2, 2}, {2, 1, 1}, {3, 2, 2}, {4, 4, 3}, {5, 1, 1}, {6, 2, 2}, {7, 3, 3},
		{-1, 0, 0}, {-3, 0, 0}, {-1 - (1 << 40), 0, 0},
		{8, 0, 0}, {99, 0, 0}, {math.MaxInt, 0, 0}, {-2 - (1 << 40), 0, 0}, {math.MinInt, 0, 0},
	} {
		if size, depth := Size(a, x.f), Depth(a, x.f); size != x.size || depth != x.depth {
			t.Error("P8.2: Size and Depth of", x.f, "are", size, depth, "not", x.size, x.depth)
		}
	}
}

func TestCubesTold(t *testing.T) {
	a := small(t)
	for _, x := range []struct {
		f, value int
		cubes    []Cube
	}{
		{4, 0, []Cube{{Mask: 3, Bits: 2}, {Mask: 5, Bits: 1}}}, {4, 1, []Cube{{Mask: 11}, {Mask: 5, Bits: 5}}}, {4, 2, []Cube{{Mask: 11, Bits: 8}}},
		{1, 0, []Cube{{Mask: 1}, {Mask: 5, Bits: 1}}}, {1, 1, []Cube{{Mask: 5, Bits: 5}}}, {0, 0, []Cube{{Mask: 4}}},
		{-1, 0, []Cube{{}}}, {-3, 2, []Cube{{}}}, {-1 - (1 << 40), 1 << 40, []Cube{{}}},
		{4, 3, nil}, {4, -1, nil}, {-3, 0, nil}, {-3, -3, nil}, {-1, 1<<40 + 1, nil},
		{9, 0, nil}, {math.MaxInt, 0, nil}, {-2 - (1 << 40), 0, nil}, {-2 - (1 << 40), 1<<40 + 1, nil}, {math.MinInt, 0, nil},
	} {
		if cubes := Cubes(a, x.f, x.value); !slices.Equal(cubes, x.cubes) {
			t.Error("P8.3: Cubes of", x.f, x.value, "are", cubes, "not", x.cubes)
		}
	}
}

// TestSmall holds all diagrams of few variables against what Walk and their nodes tell.
func TestSmall(t *testing.T) {
	for _, x := range []struct {
		vars  []int
		terms int
	}{{[]int{2, 1, 0}, 2}, {[]int{11, 5, 0}, 2}, {[]int{11, 10}, 2}, {[]int{6, 3}, 3}, {[]int{1, 0}, 3}, {[]int{0}, 4}, {[]int{11}, 4}} {
		a := node.New(1 << 16)
		var refs []int
		for k := range x.terms {
			refs = append(refs, node.Term(k))
		}
		for _, v := range x.vars {
			below := refs
			for _, low := range below {
				for _, high := range below {
					if f := mk(t, a, v, low, high); low != high {
						refs = append(refs, f)
					}
				}
			}
		}
		for i, f := range refs {
			// Of many diagrams some are enough.
			if len(refs) < 99 || i%3 == 0 {
				agree(t, a, f)
			}
		}
	}
}

// mixed makes an arena in which each node has any two refs of greater variables.
func mixed(t *testing.T, seed uint64) *node.Arena {
	t.Helper()
	a := node.New(1 << 16)
	refs := []int{node.Term(0), node.Term(1), node.Term(2), node.Term(1 << 40), node.Term(7)}
	for v := 11; v >= 0; v-- {
		below := refs
		for range 3 {
			seed = seed*6364136223846793005 + 1442695040888963407
			low, high := below[seed>>33%uint64(len(below))], below[seed>>45%uint64(len(below))]
			refs = append(refs, mk(t, a, v, low, high))
		}
	}
	return a
}

// TestMixed holds diagrams of many variables, of which many parts are shared, against what Walk and their nodes tell.
func TestMixed(t *testing.T) {
	for seed := range uint64(12) {
		a := mixed(t, seed)
		for f := range a.Len() {
			agree(t, a, f)
		}
	}
}

// TestFull: all of 12 variables are asked on each way, and no two numbers are told the same.
func TestFull(t *testing.T) {
	a := node.New(1 << 16)
	var whole func(v, head int) int
	whole = func(v, head int) int {
		if v == 12 {
			return node.Term(numbers - 1 - head)
		}
		return mk(t, a, v, whole(v+1, head), whole(v+1, head|1<<v))
	}
	f := whole(0, 0)
	if s, d, v := Size(a, f), Depth(a, f), Values(a, f); s != numbers-1 || d != 12 || len(v) != numbers || v[0] != 0 || v[numbers-1] != numbers-1 || !slices.IsSorted(v) {
		t.Error("P8.1, P8.2: of all:", s, d, len(v))
	}
	// Each k is looked for on all ways, so some must do: by 65 the upper six bits, and the lower six, are each once.
	for k := 0; k < numbers; k += 65 {
		bits := uint(numbers - 1 - k)
		one, is := One(a, f, k)
		if cubes := Cubes(a, f, k); one != bits || !is || !slices.Equal(cubes, []Cube{{Mask: numbers - 1, Bits: bits}}) {
			t.Fatal("P8.1, P8.3: of all,", k, "is told by", one, is, cubes)
		}
	}
	if Sat(a, f, 5, 12) != 1 || Sat(a, f, 5, 11) != 0 || Sat(a, f, numbers, 12) != 0 {
		t.Error("P8.1: Sat of all:", Sat(a, f, 5, 12), Sat(a, f, 5, 11), Sat(a, f, numbers, 12))
	}
}

// TestParity: two nodes of each variable, and ways without number.
func TestParity(t *testing.T) {
	a := node.New(99)
	even, odd := node.Term(0), node.Term(1)
	for v := 11; v >= 0; v-- {
		even, odd = mk(t, a, v, even, odd), mk(t, a, v, odd, even)
	}
	agree(t, a, even)
	agree(t, a, odd)
	if Size(a, even) != 23 || Sat(a, even, 1, 12) != numbers/2 || len(Cubes(a, even, 1)) != numbers/2 {
		t.Error("P8.1 to P8.3: parity:", Size(a, even), Sat(a, even, 1, 12), len(Cubes(a, even, 1)))
	}
}

// TestStrangers: nothing is told of a ref that the arena has not, though the one of another number may be had.
func TestStrangers(t *testing.T) {
	for _, a := range []*node.Arena{node.New(0), node.New(-1), node.New(9), small(t), mixed(t, 3)} {
		for _, f := range strangers(a.Len()) {
			for _, value := range append(strange(), -1-f, f) {
				for n := -1; n <= 13; n++ {
					if sat := Sat(a, f, value, n); sat != 0 {
						t.Error("P8.1: Sat of", f, value, n, "is", sat)
					}
				}
				if one, is := One(a, f, value); one != 0 || is {
					t.Error("P8.1: One of", f, value, "is", one, is)
				}
				if cubes := Cubes(a, f, value); len(cubes) != 0 {
					t.Error("P8.3: Cubes of", f, value, "are", cubes)
				}
			}
			if s, d, v := Size(a, f), Depth(a, f), Values(a, f); s != 0 || d != 0 || len(v) != 0 {
				t.Error("P8.1, P8.2: of", f, "are told", s, d, v)
			}
		}
		for _, f := range []int{node.Term(0), node.Term(1), node.Term(9), node.Term(1 << 40)} {
			agree(t, a, f)
		}
	}
}

// TestStays: whatever is asked, the arena stays, what is told is the caller's own, and is told again just so.
func TestStays(t *testing.T) {
	a := mixed(t, 5)
	before := a.Copy()
	for f := range a.Len() {
		values := Values(a, f)
		again := slices.Clone(values)
		clear(values)
		if got := Values(a, f); !slices.Equal(got, again) {
			t.Error("R6, R7: Values of", f, "are", got, "not", again)
		}
		for _, value := range again {
			cubes := Cubes(a, f, value)
			twin := slices.Clone(cubes)
			clear(cubes)
			if got := Cubes(a, f, value); !slices.Equal(got, twin) {
				t.Error("R6, R7: Cubes of", f, value, "are", got, "not", twin)
			}
		}
		agree(t, a, f)
	}
	if a.Len() != before.Len() || a.Limit() != before.Limit() {
		t.Error("R5: the arena has", a.Len(), a.Limit(), "not", before.Len(), before.Limit())
	}
	for f := range before.Len() {
		got, _ := a.Get(f)
		if want, _ := before.Get(f); got != want {
			t.Error("R5: node", f, "is", got, "not", want)
		}
	}
}

// TestGrows: an arena that has got more nodes tells of the old ones what it told, and of the new ones, too.
func TestGrows(t *testing.T) {
	a := node.New(20)
	last := node.Term(0)
	for v := 11; v >= 0; v-- {
		if f := a.Len(); Size(a, f) != 0 || Depth(a, f) != 0 || Values(a, f) != nil {
			t.Error("P8.2: of a node that is not there yet:", f)
		}
		last = mk(t, a, v, last, node.Term(v+1))
		for f := range a.Len() {
			agree(t, a, f)
		}
		if Depth(a, last) != 12-v || Size(a, last) != 12-v {
			t.Error("P8.2: of a chain of", 12-v, "are told", Depth(a, last), Size(a, last))
		}
	}
}

// TestWaysEnd: who asks for no more ways gets none.
func TestWaysEnd(t *testing.T) {
	a := small(t)
	all := down(a, 4)
	for most := range len(all) + 1 {
		var got []Cube
		for c := range ways(a, 4) {
			if len(got) == most {
				break
			}
			got = append(got, c)
		}
		if len(got) != most {
			t.Fatal("P8.3:", most, "ways are", got)
		}
		for i, c := range got {
			if c != all[i].cube() {
				t.Error("P8.3: way", i, "is", c)
			}
		}
	}
}
