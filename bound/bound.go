// Package bound is layer 1: see shared/doc/01-bound.md.
package bound

import (
	"strconv"

	"helmsman/api"
)

// Bounds that are none, and that are the greatest.
const (
	None = 1 << 62
	Edge = 1 << 61
)

// What is reckoned.
const (
	Plus   = 0
	Minus  = 1
	Times  = 2
	Divide = 3
)

const noneText = "none"

// In tells whether n is a whole number of a program.
func In(n int) bool { return -api.Max <= n && n <= api.Max }

// Calc reckons with two whole numbers; its result is a whole number, or there is an error.
func Calc(op, a, b int) (int, api.Errno) {
	if !In(a) || !In(b) {
		return 0, api.ErrArg
	}
	n := 0
	switch op {
	case Minus:
		// Whole numbers reach as far below 0 as above it, so -b is one, too.
		b = -b
		fallthrough
	case Plus:
		n = a + b
	case Times:
		if !fits(a, b) {
			return 0, api.ErrOver
		}
		n = a * b
	case Divide:
		if b == 0 {
			return 0, api.ErrZero
		}
		n = a / b
	default:
		return 0, api.ErrArg
	}
	if !In(n) {
		return 0, api.ErrOver
	}
	return n, api.OK
}

// fits tells whether a times b is a whole number. It divides, since the product may wrap round an int.
func fits(a, b int) bool {
	return a == 0 || size(b) <= api.Max/size(a)
}

// size is how far a whole number is from 0.
func size(n int) int {
	if n < 0 {
		return -n
	}
	return n
}

// Right tells whether b is a bound.
func Right(b int) bool { return b == None || -Edge <= b && b <= Edge }

// Near tells the least bound that is not below b.
func Near(b int) int {
	if b > Edge {
		return None
	}
	if b < -Edge {
		return -Edge
	}
	return b
}

// Add tells what a sum is not above, if its parts are not above a and b.
func Add(a, b int) int {
	a, b = Near(a), Near(b)
	if a == None || b == None {
		return None
	}
	// Twice Edge is well inside an int, so this sum never wraps round.
	return Near(a + b)
}

// Leq tells whether the bound a is not above the bound b; None is above all others, as a number is, too.
func Leq(a, b int) bool { return Near(a) <= Near(b) }

// Text writes a bound.
func Text(b int) string {
	b = Near(b)
	if b == None {
		return noneText
	}
	return strconv.Itoa(b)
}

// Parse reads what Text writes, and nothing else.
func Parse(s string) (int, api.Errno) {
	if s == noneText {
		return None, api.OK
	}
	n, err := strconv.Atoi(s)
	// Writing it again refuses signs and noughts ahead, and numbers that are no bounds.
	if err != nil || Text(n) != s {
		return 0, api.ErrArg
	}
	return n, api.OK
}
