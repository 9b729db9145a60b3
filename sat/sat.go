// Package sat is layer 1: unsigned arithmetic that saturates instead of wrapping around.
package sat

import (
	"math/bits"

	"splittally/api"
)

// Add returns a + b, at most Top.
func Add(a, b uint64) uint64 {
	sum, carry := bits.Add64(a, b, 0)
	if carry != 0 {
		return api.Top
	}
	return sum
}

// Sub returns a - b, at least 0.
func Sub(a, b uint64) uint64 {
	if b > a {
		return 0
	}
	return a - b
}

// Mul returns a * b, at most Top.
func Mul(a, b uint64) uint64 {
	hi, lo := bits.Mul64(a, b)
	if hi != 0 {
		return api.Top
	}
	return lo
}

// Shl returns a * 2^n, at most Top; a negative n shifts nothing.
func Shl(a uint64, n int) uint64 {
	// Zero has 64 leading zeros, but no shift is too far for it.
	if n < 0 || a == 0 {
		return a
	}
	if n > bits.LeadingZeros64(a) {
		return api.Top
	}
	return a << n
}

// Diff returns the absolute difference of a and b.
func Diff(a, b uint64) uint64 {
	if a < b {
		return b - a
	}
	return a - b
}

// Clamp returns x, but at most hi and otherwise at least lo.
func Clamp(x, lo, hi uint64) uint64 {
	// The order of the two comparisons matters if lo is greater than hi.
	if x > hi {
		return hi
	}
	if x < lo {
		return lo
	}
	return x
}
