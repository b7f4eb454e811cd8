// Package fixed is layer 1: lengths in scaled points, and sums and products of
// them that are never wrong in silence (shared/doc/01-fixed.md).
package fixed

import (
	"math/bits"

	"colophon/api"
)

// pointBits is how many bits of a length lie below its whole points.
const pointBits = 16

// In tells whether a number is in.
func In(x int) bool { return -api.MaxSp <= x && x <= api.MaxSp }

// Add is a + b, if all three are in.
func Add(a, b int) (int, bool) {
	if !In(a) || !In(b) {
		return 0, false
	}
	return ifIn(a + b)
}

// Sub is a - b, if all three are in.
func Sub(a, b int) (int, bool) {
	if !In(a) || !In(b) {
		return 0, false
	}
	return ifIn(a - b)
}

// Times is a * n, if a and it are in.
func Times(a, n int) (int, bool) {
	if !In(a) {
		return 0, false
	}
	return Floor(a, n, 1)
}

// Scale is a * b / c, rounded to the nearest number, a half upwards.
func Scale(a, b, c int) (int, bool) {
	q, rest, ok := divide(a, b, c)
	if !ok {
		return 0, false
	}
	// Twice the rest might not fit into an int; c less the rest always does.
	if rest >= c-rest {
		q++
	}
	return ifIn(q)
}

// Floor is a * b / c, rounded down.
func Floor(a, b, c int) (int, bool) {
	q, _, ok := divide(a, b, c)
	if !ok {
		return 0, false
	}
	return ifIn(q)
}

// Sum adds all, if each of them and the sum are in.
func Sum(l []int) (int, bool) {
	// A long list's sum on the way may need more than 64 bits, so whole points
	// and what is left of them are counted apart.
	points, rest := 0, 0
	for _, x := range l {
		if !In(x) {
			return 0, false
		}
		points += x >> pointBits
		rest += x & (api.One - 1)
	}
	points += rest >> pointBits
	rest &= api.One - 1
	whole, ok := Times(points, api.One)
	if !ok {
		return 0, false
	}
	return ifIn(whole + rest)
}

// Share shares a total out by weights, so that the shares add up to it.
func Share(total int, parts []int) ([]int, bool) {
	all, ok := Sum(parts)
	if !ok || all == 0 || !In(total) || anyBelowZero(parts) {
		return nil, false
	}
	shares := make([]int, len(parts))
	weight, given := 0, 0
	for i, part := range parts {
		weight += part
		// The weight is at most all, so what is due is at most total: it is in.
		due, _ := Floor(total, weight, all)
		shares[i] = due - given
		given = due
	}
	return shares, true
}

func ifIn(x int) (int, bool) {
	if !In(x) {
		return 0, false
	}
	return x, true
}

// divide is a * b / c, rounded down, and the rest, from 0 to c - 1. It answers
// false if c is below 1, or if the quotient is so far out that rounding it
// either way leaves it out. The quotient may be one below -MaxSp: Scale may
// still round it up.
func divide(a, b, c int) (int, int, bool) {
	if c < 1 {
		return 0, 0, false
	}
	high, low := bits.Mul64(size(a), size(b))
	// Div64 panics where the quotient needs more than 64 bits.
	if high >= uint64(c) {
		return 0, 0, false
	}
	quotient, left := bits.Div64(high, low, uint64(c))
	if quotient > api.MaxSp {
		return 0, 0, false
	}
	q, rest := int(quotient), int(left)
	if (a < 0) == (b < 0) {
		return q, rest, true
	}
	if rest == 0 {
		return -q, 0, true
	}
	return -q - 1, c - rest, true
}

// size is x without its sign; a uint64, because the least int's is no int.
func size(x int) uint64 {
	if x < 0 {
		return -uint64(x)
	}
	return uint64(x)
}

func anyBelowZero(l []int) bool {
	for _, x := range l {
		if x < 0 {
			return true
		}
	}
	return false
}
