// Package path: the ways into a value: see DOC.md, section Words.
package path

import (
	"slices"
	"strconv"
	"strings"

	"sheaf/api"
)

// Path is the names of its steps.
type Path []string

// Parse tells whether s is a path, too.
func Parse(s string) (Path, bool) {
	steps := strings.Split(s, ".")
	if slices.Contains(steps, "") {
		return nil, false
	}
	return steps, true
}

// From is the value to which the path leads from v, or false if it is missing.
func (p Path) From(v api.Value) (api.Value, bool) {
	for _, name := range p {
		at := placeOf(name, v)
		if at < 0 {
			return api.Value{}, false
		}
		v = v.L[at]
	}
	return v, true
}

// OrNull is the value to which the path leads from v, or Null if it is missing.
func (p Path) OrNull(v api.Value) api.Value {
	if found, there := p.From(v); there {
		return found
	}
	return api.Value{Kind: api.Null}
}

// Put is v with another value in the place to which the path leads, and v
// itself if that is nowhere. What v has is not written into: others have it, too.
func (p Path) Put(v, other api.Value) api.Value {
	if len(p) == 0 {
		return other
	}
	at := placeOf(p[0], v)
	if at < 0 {
		return v
	}
	inner := slices.Clone(v.L)
	inner[at] = p[1:].Put(inner[at], other)
	v.L = inner
	return v
}

// placeOf is where in v's values a step leads to, or -1.
func placeOf(name string, v api.Value) int {
	switch v.Kind {
	case api.Object:
		return slices.Index(v.K, name)
	case api.List:
		return elementOf(name, len(v.L))
	}
	return -1
}

// elementOf is the number that name is the digits of, or -1: a number has just
// one name, so a sign or a 0 ahead shows when the number is written again.
func elementOf(name string, count int) int {
	n, err := strconv.Atoi(name)
	if err != nil || n < 0 || n >= count || strconv.Itoa(n) != name {
		return -1
	}
	return n
}
