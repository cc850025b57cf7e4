// Package order: which of two values is the greater one: see DOC.md, P6.
package order

import (
	"cmp"
	"slices"

	"sheaf/api"
)

// Compare takes for granted that a and b are values.
func Compare(a, b api.Value) int {
	if a.Kind != b.Kind {
		return cmp.Compare(a.Kind, b.Kind)
	}
	switch a.Kind {
	case api.Bool, api.Number:
		return cmp.Compare(a.N, b.N)
	case api.Text:
		return cmp.Compare(a.S, b.S)
	case api.List:
		return slices.CompareFunc(a.L, b.L, Compare)
	case api.Object:
		return compareObjects(a, b)
	}
	return 0
}

// Equal takes for granted that a and b are values.
func Equal(a, b api.Value) bool { return Compare(a, b) == 0 }

func compareObjects(a, b api.Value) int {
	for i := range min(len(a.L), len(b.L)) {
		if c := cmp.Compare(a.K[i], b.K[i]); c != 0 {
			return c
		}
		if c := Compare(a.L[i], b.L[i]); c != 0 {
			return c
		}
	}
	return cmp.Compare(len(a.L), len(b.L))
}
