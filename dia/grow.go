package dia

import (
	"helmsman/api"
	"helmsman/bdd"
	"helmsman/node"
)

// bottom is the diagram of the bottom for all bits.
const bottom = bdd.False

// pair is where two diagrams have come to that are gone through together.
type pair [2]int

// end tells what comes of two diagrams, if there is no need to go on from where they have come to, and whether it is so.
type end func(at pair) (ref int, is bool, e api.Errno)

// course is how diagrams are gone through together; a spot of it is where each of them has come to.
type course[Spot comparable] struct {
	// top tells the variable that is asked for at a spot.
	top func(at Spot) int
	// half tells the spot to which bit v leads.
	half func(at Spot, v int, b bool) Spot
	// end tells what comes of a spot, if there is no need to go on from there, and whether it is so. It has to be where
	// no variable is left.
	end func(at Spot) (ref int, is bool, e api.Errno)
}

// grow tells the diagram of what a course comes to, for all bits. Some bits lead to each spot, so neither a node nor a
// leaf is made that is not part of what is told.
func grow[Spot comparable](a *node.Arena, from Spot, c course[Spot]) (int, error) {
	var full error
	mk := func(v, low, high int) int {
		ref, e := a.Mk(v, low, high)
		if e == nil {
			return ref
		}
		// A leaf that has no room comes ahead of a node that has none (R1), so it is gone on, to meet all leaves. The
		// arena is full from here on: nothing is held of what is made of the bottom.
		if full == nil {
			full = e
		}
		return bottom
	}
	came := map[Spot]int{}
	var down func(at Spot) (int, api.Errno)
	down = func(at Spot) (int, api.Errno) {
		if ref, before := came[at]; before {
			return ref, api.OK
		}
		ref, is, e := c.end(at)
		if !is {
			ref, e = c.fork(at, down, mk)
		}
		if e != api.OK {
			return 0, e
		}
		came[at] = ref
		return ref, api.OK
	}
	ref, e := down(from)
	switch {
	case e != api.OK:
		return 0, e
	case full != nil:
		return 0, full
	}
	return ref, nil
}

// fork tells what mk makes of that to which down comes by both halves.
func (c course[Spot]) fork(at Spot, down func(at Spot) (int, api.Errno), mk func(v, low, high int) int) (int, api.Errno) {
	v := c.top(at)
	low, e := down(c.half(at, v, false))
	if e != api.OK {
		return 0, e
	}
	high, e := down(c.half(at, v, true))
	if e != api.OK {
		return 0, e
	}
	return mk(v, low, high), api.OK
}

// half tells d with b as bit v, where no variable of d is below v.
func (s *Space) half(d, v int, b bool) int {
	n, is := s.arena().Get(d)
	switch {
	case !is || n.V != v:
		return d
	case b:
		return n.High
	}
	return n.Low
}

// halves tells half of both.
func (s *Space) halves(at pair, v int, b bool) pair {
	return pair{s.half(at[0], v, b), s.half(at[1], v, b)}
}

// top tells the least variable of both.
func (s *Space) top(at pair) int { return min(s.arena().Var(at[0]), s.arena().Var(at[1])) }

// term tells the terminal of an id, if there is one.
func term(id int, e api.Errno) (int, api.Errno) {
	if e != api.OK {
		return 0, e
	}
	return node.Term(id), api.OK
}

// alike ends where both diagrams are the same one, of which op is to tell that one, or two leaves, of which op tells.
func alike(op func(a, b int) (int, api.Errno)) end {
	return func(at pair) (int, bool, api.Errno) {
		switch d, e := at[0], at[1]; {
		case d == e:
			return d, true, api.OK
		case node.IsTerm(d) && node.IsTerm(e):
			ref, no := term(op(node.Value(d), node.Value(e)))
			return ref, true, no
		}
		return 0, false, api.OK
	}
}

// joined is alike of Join, and ends where one is the bottom, too.
func (s *Space) joined(at pair) (int, bool, api.Errno) {
	switch bottom {
	case at[0]:
		return at[1], true, api.OK
	case at[1]:
		return at[0], true, api.OK
	}
	return alike(s.table.Join)(at)
}
