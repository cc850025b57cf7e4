// Package number: arithmetic that tells whether its result fits into 64 bits.
package number

import "math"

// Add is false if a + b does not fit.
func Add(a, b int64) (int64, bool) {
	sum := a + b
	return sum, (sum > a) == (b > 0)
}

// Sub is false if a - b does not fit.
func Sub(a, b int64) (int64, bool) {
	difference := a - b
	return difference, (difference < a) == (b > 0)
}

// Mul is false if a * b does not fit. Dividing the product again shows that,
// but where the division itself wraps round to what was there ahead.
func Mul(a, b int64) (int64, bool) {
	if b == 0 {
		return 0, true
	}
	product := a * b
	return product, product/b == a && !(a == math.MinInt64 && b == -1)
}
