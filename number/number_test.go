package number_test

import (
	"math"
	"math/big"
	"math/rand"
	"testing"

	"sheaf/number"
)

// agrees holds an answer against the one of numbers without bounds.
func agrees(t *testing.T, what string, a, b, got int64, fits bool, want *big.Int) {
	t.Helper()
	if fits != want.IsInt64() || fits && got != want.Int64() {
		t.Errorf("P11: %d %s %d = %d, %t, want %s", a, what, b, got, fits, want)
	}
}

func holds(t *testing.T, a, b int64) {
	t.Helper()
	x, y := big.NewInt(a), big.NewInt(b)
	got, fits := number.Add(a, b)
	agrees(t, "+", a, b, got, fits, new(big.Int).Add(x, y))
	got, fits = number.Sub(a, b)
	agrees(t, "-", a, b, got, fits, new(big.Int).Sub(x, y))
	got, fits = number.Mul(a, b)
	agrees(t, "*", a, b, got, fits, new(big.Int).Mul(x, y))
}

func TestResultsAtTheEdges(t *testing.T) {
	var edges []int64
	for _, at := range []int64{0, math.MinInt64, math.MaxInt64, math.MinInt64 / 2, math.MaxInt64 / 2, math.MinInt64 / 3, math.MaxInt64 / 3, 1 << 31, -1 << 31, 1 << 32, -1 << 32, 3037000499, -3037000499} {
		for by := int64(-3); by <= 3; by++ {
			edges = append(edges, at+by)
		}
	}
	for _, a := range edges {
		for _, b := range edges {
			holds(t, a, b)
		}
	}
}

func TestResultsOfNumbersOfAllLengths(t *testing.T) {
	r := rand.New(rand.NewSource(3))
	for range 100000 {
		holds(t, int64(r.Uint64())>>r.Intn(64), int64(r.Uint64())>>r.Intn(64))
	}
}
