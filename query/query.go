// Package query: what the parsers of filters, expressions and pipelines have
// in common.
package query

import (
	"strings"

	"sheaf/api"
)

// IsOperator tells names, and texts, that say what to do from all others.
func IsOperator(name string) bool { return strings.HasPrefix(name, "$") }

// OnlyEntry is the name and the value of an object of one entry, or false if v
// is none.
func OnlyEntry(v api.Value) (string, api.Value, bool) {
	if v.Kind != api.Object || len(v.K) != 1 {
		return "", api.Value{}, false
	}
	return v.K[0], v.L[0], true
}
