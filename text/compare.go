package text

import (
	"cmp"
	"slices"

	"sheaf/api"
)

func compare(a, b api.Value) int {
	if a.Kind != b.Kind {
		return cmp.Compare(a.Kind, b.Kind)
	}
	switch a.Kind {
	case api.Bool, api.Number:
		return cmp.Compare(a.N, b.N)
	case api.Text:
		return cmp.Compare(a.S, b.S)
	case api.List:
		return slices.CompareFunc(a.L, b.L, compare)
	case api.Object:
		return compareObjects(a, b)
	}
	return 0
}

func compareObjects(a, b api.Value) int {
	for i := range min(len(a.L), len(b.L)) {
		if c := cmp.Compare(a.K[i], b.K[i]); c != 0 {
			return c
		}
		if c := compare(a.L[i], b.L[i]); c != 0 {
			return c
		}
	}
	return cmp.Compare(len(a.L), len(b.L))
}
