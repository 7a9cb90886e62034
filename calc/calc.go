// Package calc: numbers that may not overflow: see doc/01-calc.md.
package calc

import "math"

// Add tells the sum of a and b, if it is an int64.
func Add(a, b int64) (int64, bool) {
	if wrapsUp(a, b) || wrapsDown(a, b) {
		return 0, false
	}
	return a + b, true
}

// Mul tells the product of a and b, if it is an int64.
func Mul(a, b int64) (int64, bool) {
	if b == 0 {
		return 0, true
	}
	// The quotient below goes round as the product does: it can't tell this one.
	if a == math.MinInt64 && b == -1 {
		return 0, false
	}
	product := a * b
	if product/b != a {
		return 0, false
	}
	return product, true
}

// Up tells a by b, rounded towards greater numbers, if there is such an int64.
func Up(a, b int64) (int64, bool) {
	if b == 0 || a == math.MinInt64 && b == -1 {
		return 0, false
	}
	quotient, rest := a/b, a%b
	// The language rounds towards 0: that is too low where the exact quotient is above 0.
	if rest != 0 && (rest > 0) == (b > 0) {
		quotient++
	}
	return quotient, true
}

// Sum tells the sum of all of l, if the sum as a whole is an int64.
func Sum(l []int64) (int64, bool) {
	// The sum so far is total and 2^64 times wraps: nothing is lost where total goes round.
	var total int64
	wraps := 0
adding:
	for i, n := range l {
		// Each number that is left takes back one wrap at most: more than these stay.
		switch left := len(l) - 1 - i; {
		case wrapsUp(total, n):
			wraps++
			if wraps > left {
				break adding
			}
		case wrapsDown(total, n):
			wraps--
			if -wraps > left {
				break adding
			}
		}
		total += n
	}
	if wraps != 0 {
		return 0, false
	}
	return total, true
}

// Clip tells n, held from lo to hi; lo, if hi is below lo.
func Clip(n, lo, hi int64) int64 {
	if n < lo || hi < lo {
		return lo
	}
	if n > hi {
		return hi
	}
	return n
}

// wrapsUp tells whether the sum of a and b is above all int64s.
func wrapsUp(a, b int64) bool { return b > 0 && a > math.MaxInt64-b }

// wrapsDown tells whether the sum of a and b is below all int64s.
func wrapsDown(a, b int64) bool { return b < 0 && a < math.MinInt64-b }
