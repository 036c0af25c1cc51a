// Package fix is layer 1: see shared/doc/01-fix.md.
package fix

import "math"

// Add, Sub, Mul are the sum, the difference, the product; false: it is beyond int64.
func Add(a, b int64) (int64, bool) {
	sum := a + b
	// A sum runs over only where both parts have one sign, and then it wraps to the other one.
	if (a < 0) == (b < 0) && (sum < 0) != (a < 0) {
		return 0, false
	}
	return sum, true
}

func Sub(a, b int64) (int64, bool) {
	rest := a - b
	// A difference runs over only where the signs differ, and then it wraps to b's.
	if (a < 0) != (b < 0) && (rest < 0) != (a < 0) {
		return 0, false
	}
	return rest, true
}

func Mul(a, b int64) (int64, bool) {
	switch b {
	case 0:
		return 0, true
	case -1:
		// The least number divided by -1 wraps to itself, so the division below would not tell.
		return Sub(0, a)
	}
	product := a * b
	if product/b != a {
		return 0, false
	}
	return product, true
}

// Sat is the sum, held to int64's ends, Less the difference likewise.
func Sat(a, b int64) int64 {
	sum, is := Add(a, b)
	return held(sum, is, endBySign(a))
}

func Less(a, b int64) int64 {
	rest, is := Sub(a, b)
	return held(rest, is, endBySign(a))
}

// held asks for an end only where the number itself is none.
func held(n int64, is bool, end func() int64) int64 {
	if is {
		return n
	}
	return end()
}

// endBySign tells the end on a's side of 0: a sum or difference that runs over always does so on the side of its first part.
func endBySign(a int64) func() int64 {
	return func() int64 {
		if a < 0 {
			return math.MinInt64
		}
		return math.MaxInt64
	}
}

// Hold is a number, held to two ends; low goes first where it is above high.
func Hold(n, low, high int64) int64 {
	if n < low {
		return low
	}
	if n > high {
		return high
	}
	return n
}
