// Package filter: of which documents a filter holds: see DOC.md, P8.
package filter

import (
	"slices"

	"sheaf/api"
	"sheaf/path"
	"sheaf/refusal"
)

// Filter is conditions, all of which hold of a document if the filter does.
type Filter []condition

type condition interface {
	holds(doc api.Value) bool
}

// Parse reads a filter from the value that it is written as; the filter is
// not to be used once that has changed.
func Parse(v api.Value) (Filter, api.Errno) {
	return refusal.Attempt(func() Filter { return parseFilter(v) })
}

// Holds tells whether the filter holds of a document.
func (f Filter) Holds(doc api.Value) bool {
	for _, c := range f {
		if !c.holds(doc) {
			return false
		}
	}
	return true
}

// Among is those documents of which the filter holds, as they came.
func (f Filter) Among(docs []api.Value) []api.Value {
	var held []api.Value
	for _, doc := range docs {
		if f.Holds(doc) {
			held = append(held, doc)
		}
	}
	return held
}

// What the filters in a list have to do for the condition to hold.
type (
	allHold  []Filter
	oneHolds []Filter
	noneHold []Filter
)

func (l allHold) holds(doc api.Value) bool {
	for _, f := range l {
		if !f.Holds(doc) {
			return false
		}
	}
	return true
}

func (l oneHolds) holds(doc api.Value) bool {
	return slices.ContainsFunc(l, func(f Filter) bool { return f.Holds(doc) })
}

func (l noneHold) holds(doc api.Value) bool { return !oneHolds(l).holds(doc) }

// valueHas is the tests on the value to which a path leads.
type valueHas struct {
	path  path.Path
	tests tests
}

func (c valueHas) holds(doc api.Value) bool {
	v, there := c.path.From(doc)
	return c.tests.hold(v, there)
}
