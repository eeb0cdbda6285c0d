package count

import (
	"math"
	"slices"
	"testing"

	"helmsman/node"
)

// numbers is how many numbers of 12 bits there are.
const numbers = 1 << 12

// told is what f tells for each number of 12 bits.
func told(a *node.Arena, f int) []int {
	values := make([]int, numbers)
	for bits := range uint(numbers) {
		values[bits] = -1 - a.Walk(f, bits)
	}
	return values
}

// way is one way down: the variables of its nodes, where it goes by High, and the value at its end.
type way struct {
	vars  []int
	highs []bool
	value int
}

// down tells all ways from f on, the one by Low first at each node.
func down(a *node.Arena, f int) []way {
	n, is := a.Get(f)
	if !is {
		return []way{{value: -1 - f}}
	}
	var all []way
	for _, child := range []int{n.Low, n.High} {
		for _, w := range down(a, child) {
			all = append(all, way{append([]int{n.V}, w.vars...), append([]bool{child == n.High}, w.highs...), w.value})
		}
	}
	return all
}

// cube is what is known on a way.
func (w way) cube() Cube {
	var c Cube
	for i, v := range w.vars {
		c.Mask += 1 << v
		if w.highs[i] {
			c.Bits += 1 << v
		}
	}
	return c
}

// nodes puts f, if it is a node, and all nodes below it into held.
func nodes(a *node.Arena, f int, held map[int]node.Node) {
	if n, is := a.Get(f); is {
		held[f] = n
		nodes(a, n.Low, held)
		nodes(a, n.High, held)
	}
}

// agree fails, if what is told of f, which a has, is not what its nodes and Walk say.
func agree(t *testing.T, a *node.Arena, f int) {
	t.Helper()
	values, all, held := told(a, f), down(a, f), map[int]node.Node{}
	nodes(a, f, held)
	depth := 0
	for _, w := range all {
		depth = max(depth, len(w.vars))
	}
	if s, d := Size(a, f), Depth(a, f); s != len(held) || d != depth {
		t.Fatal("P8.2: Size and Depth of", f, "are", s, d, "not", len(held), depth)
	}
	each := slices.Clone(values)
	slices.Sort(each)
	each = slices.Compact(each)
	if got := Values(a, f); !slices.Equal(got, each) {
		t.Fatal("P8.1: Values of", f, "are", got, "not", each)
	}
	for _, value := range append(strange(), each...) {
		agreeOf(t, a, f, value, values, held)
		var cubes []Cube
		for _, w := range all {
			if w.value == value {
				cubes = append(cubes, w.cube())
			}
		}
		got := Cubes(a, f, value)
		if !slices.Equal(got, cubes) {
			t.Fatal("P8.3: Cubes of", f, value, "are", got, "not", cubes)
		}
		fit(t, got, value, values)
	}
}

// agreeOf holds Sat and One of a value against what f tells for all numbers.
func agreeOf(t *testing.T, a *node.Arena, f, value int, values []int, held map[int]node.Node) {
	t.Helper()
	at := slices.Index(values, value)
	if one, is := One(a, f, value); is != (at >= 0) || one != uint(max(at, 0)) {
		t.Fatal("P8.1: One of", f, value, "is", one, is, "not", at)
	}
	for n := -1; n <= 13; n++ {
		want := 0
		if satisfies(n, held) {
			for _, x := range values[:1<<n] {
				if x == value {
					want++
				}
			}
		}
		if got := Sat(a, f, value, n); got != want {
			t.Fatal("P8.1: Sat of", f, value, n, "is", got, "not", want)
		}
	}
}

// satisfies: is n from 0 to 12, and above all variables?
func satisfies(n int, held map[int]node.Node) bool {
	for _, x := range held {
		if x.V >= n {
			return false
		}
	}
	return 0 <= n && n <= 12
}

// fit fails, if a number for which value is told fits no cube, or two, or another number fits one.
func fit(t *testing.T, cubes []Cube, value int, values []int) {
	t.Helper()
	for bits, x := range values {
		fits := 0
		for _, c := range cubes {
			if uint(bits)&c.Mask == c.Bits {
				fits++
			}
		}
		if want := x == value; fits > 1 || fits == 1 != want {
			t.Fatal("P8.4:", bits, "fits", fits, "of the cubes of", value, "and", x, "is told")
		}
	}
}

// strange are values that few diagrams tell, and some that none can.
func strange() []int {
	return []int{0, 1, 2, 99, 1 << 40, 1<<40 + 1, 1 << 41, -1, -2, -3, math.MinInt, math.MaxInt, -1 << 40}
}

// strangers are refs that an arena of so many nodes has not.
func strangers(held int) []int {
	return []int{held, held + 1, held + 1<<32, math.MaxInt, -2 - (1 << 40), -3 - (1 << 40), -1 << 62, math.MinInt, math.MinInt + 1}
}
