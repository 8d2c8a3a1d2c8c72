// Package num is layer 1: see shared/doc/01-num.md.
package num

import (
	"math"
	"strconv"

	"millwright/api"
)

// Add is the sum of two numbers, if an int has it (A1).
func Add(a, b int) (int, bool) {
	sum := a + b
	// Wrap-round shows by the sum standing on the wrong side of a.
	if (sum < a) != (b < 0) {
		return 0, false
	}
	return sum, true
}

// Sub is a without b, if an int has it (A1).
func Sub(a, b int) (int, bool) {
	rest := a - b
	// Not by Add of -b: the least int has no opposite.
	if (rest > a) != (b < 0) {
		return 0, false
	}
	return rest, true
}

// Mul is a times b, if an int has it (A1).
func Mul(a, b int) (int, bool) {
	if b == 0 {
		return 0, true
	}
	// The least int by -1 wraps round both ways, so that dividing back can't tell it.
	if a == math.MinInt && b == -1 {
		return 0, false
	}
	product := a * b
	if product/b != a {
		return 0, false
	}
	return product, true
}

// Parse is the number that digits tell (A2).
func Parse(s string) (int, api.Errno) {
	if s == "" || s[0] == '0' && len(s) > 1 {
		return 0, api.ErrSyntax
	}
	n := 0
	for _, digit := range s {
		if digit < '0' || digit > '9' {
			return 0, api.ErrSyntax
		}
		// Once above the limit n stays as it is, and can't wrap round; the rest is still
		// gone through, as a wrong digit there comes ahead of the range.
		if n <= api.MaxNumber {
			n = n*10 + int(digit-'0')
		}
	}
	if n > api.MaxNumber {
		return 0, api.ErrRange
	}
	return n, api.OK
}

// Text is the digits of a number (A2).
func Text(n int) string { return strconv.Itoa(n) }

// Double is base doubled n times, but at most so much (A3).
func Double(base, n, most int) int {
	base, n, most = max(base, 0), max(n, 0), max(most, 0)
	// Nought never grows, so that going on for n times would not end in time.
	for n > 0 && base > 0 && base < most {
		// Asked as a difference: the sum may be more than an int has.
		if base > most-base {
			return most
		}
		base += base
		n--
	}
	return min(base, most)
}
