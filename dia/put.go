package dia

import (
	"helmsman/api"
	"helmsman/bdd"
	"helmsman/node"
)

// open stands for a bit v that was not come to yet: it is neither bdd.False nor bdd.True.
const open = 0

// turn is a spot of Put, which goes through d and g twice at once.
type turn struct {
	// low and high are where d and g have come to with a bit v that was false, and true, ahead of Put. Both are the
	// same, as long as v was not come to.
	low, high pair
	// now is what bit v is behind Put, as a diagram of booleans.
	now int
}

// Put tells d with what g said as bit v.
func (s *Space) Put(d, v, g int) (int, error) {
	if !s.Is(d) || !isVar(v) || !s.mgr.Is(g) {
		return 0, api.ErrArg
	}
	return grow(s.arena(), turn{low: pair{d, g}, high: pair{d, g}, now: open}, course[turn]{
		top: func(at turn) int {
			w := min(s.top(at.low), s.top(at.high))
			// What comes of v hangs on it, even if neither d nor g does.
			if at.now == open {
				return min(w, v)
			}
			return w
		},
		half: func(at turn, w int, b bool) turn {
			if w == v {
				return turn{low: s.halves(at.low, v, false), high: s.halves(at.high, v, true), now: said(b)}
			}
			return turn{low: s.halves(at.low, w, b), high: s.halves(at.high, w, b), now: at.now}
		},
		end: s.turned,
	})
}

// said tells the diagram of a bit that is known.
func said(b bool) int {
	if b {
		return bdd.True
	}
	return bdd.False
}

// turned ends where it is known what goes on of both halves, and the Join of these is.
func (s *Space) turned(at turn) (int, bool, api.Errno) {
	if at.now == open {
		return 0, false, api.OK
	}
	low, is := goes(at.low, at.now)
	high, too := goes(at.high, at.now)
	if !is || !too {
		return 0, false, api.OK
	}
	return s.joined(pair{low, high})
}

// goes tells what goes on of d: itself, where g says what bit v is now, else the bottom; and whether that is known.
func goes(at pair, now int) (int, bool) {
	switch d, g := at[0], at[1]; {
	case d == bottom:
		return bottom, true
	case !node.IsTerm(g):
		return 0, false
	case g == now:
		return d, true
	}
	return bottom, true
}
