// Package num is layer 1: whole numbers, kept within bounds. See shared/doc/01-num.md.
package num

import (
	"math"

	"coadjutor/api"
)

const (
	// Two factors of this size have a product of at most 2^60, and that is below termBound.
	factorBound = 1 << 30
	// A total of at most sumBound and one term more are still a number, so no addition wraps round.
	termBound = 1 << 61
	sumBound  = 1 << 62
)

// Clamp: low, if x is below it; else high, if x is above it; else x.
func Clamp(x, low, high int) int {
	// The order counts where low is above high, so min and max don't do.
	if x < low {
		return low
	}
	if x > high {
		return high
	}
	return x
}

// Sat: x, clamped to what activations are.
func Sat(x int) int {
	return Clamp(x, -api.MaxAct, api.MaxAct)
}

// Shift: x divided by 2 to the power of n, rounded to the nearest, a half up; 0 for an n of 63 or more.
func Shift(x, n int) int {
	if n <= 0 {
		return x
	}
	if n >= 63 {
		return 0
	}
	// The highest bit that is cut off tells whether a half or more is left; to add a half to x ahead of shifting could wrap round.
	return x>>n + x>>(n-1)&1
}

// Mul: the product of both, clamped to 2^30 on either side, shifted by n, and Sat.
func Mul(a, b, n int) int {
	return Sat(Shift(product(a, b), n))
}

// Sqrt: the greatest number whose square isn't above n; 0 of 0 and less.
func Sqrt(n int) int {
	if n <= 0 {
		return 0
	}
	root := uint64(0)
	for bit := uint64(1) << 31; bit > 0; bit >>= 1 {
		// What is tried is below 2^32, so its square is a uint64, though it may be no int.
		if next := root + bit; next*next <= uint64(n) {
			root = next
		}
	}
	return int(root)
}

// Div: a divided by b, rounded down; 0, if b is 0.
func Div(a, b int) int {
	if b == 0 {
		return 0
	}
	if a == math.MinInt && b == -1 {
		// The quotient is one more than the greatest number.
		return math.MaxInt
	}
	quotient := a / b
	if a%b != 0 && (a < 0) != (b < 0) {
		// The language rounds toward 0.
		quotient--
	}
	return quotient
}

// Sum: the sum of all; it never leaves the bound of 2^62 on either side, and goes on from there.
func Sum(list ...int) int {
	total := 0
	for _, x := range list {
		total = plus(total, x)
	}
	return total
}

// Max: the greatest.
func Max(first int, rest ...int) int {
	most := first
	for _, x := range rest {
		most = max(most, x)
	}
	return most
}

// Min: the least.
func Min(first int, rest ...int) int {
	least := first
	for _, x := range rest {
		least = min(least, x)
	}
	return least
}

// Mean: the Sum of all, divided by how many there are, rounded down; 0 of none.
func Mean(list ...int) int {
	return Div(Sum(list...), len(list))
}

// Dot: the Sum of the products, place by place, as far as both go.
func Dot(a, b []int) int {
	total := 0
	for i := range min(len(a), len(b)) {
		total = plus(total, product(a[i], b[i]))
	}
	return total
}

func product(a, b int) int {
	return Clamp(a, -factorBound, factorBound) * Clamp(b, -factorBound, factorBound)
}

func plus(total, x int) int {
	return Clamp(total+Clamp(x, -termBound, termBound), -sumBound, sumBound)
}
