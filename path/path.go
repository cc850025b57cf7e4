// Package path: the ways into a value: see DOC.md, section Words.
package path

import (
	"slices"
	"strconv"
	"strings"

	"sheaf/api"
)

// Path is the names of its steps.
type Path []string

// Parse tells whether s is a path, too.
func Parse(s string) (Path, bool) {
	steps := strings.Split(s, ".")
	if slices.Contains(steps, "") {
		return nil, false
	}
	return steps, true
}

// From is the value to which the path leads from v, or false if it is missing.
func (p Path) From(v api.Value) (api.Value, bool) {
	for _, name := range p {
		at := placeOf(name, v)
		if at < 0 {
			return api.Value{}, false
		}
		v = v.L[at]
	}
	return v, true
}

// placeOf is where in v's values a step leads to, or -1.
func placeOf(name string, v api.Value) int {
	switch v.Kind {
	case api.Object:
		return slices.Index(v.K, name)
	case api.List:
		return elementOf(name, len(v.L))
	}
	return -1
}

// elementOf is the number that name is the digits of, or -1: a number has just
// one name, so a sign or a 0 ahead shows when the number is written again.
func elementOf(name string, count int) int {
	n, err := strconv.Atoi(name)
	if err != nil || n < 0 || n >= count || strconv.Itoa(n) != name {
		return -1
	}
	return n
}
