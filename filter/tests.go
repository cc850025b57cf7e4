package filter

import (
	"slices"

	"sheaf/api"
	"sheaf/order"
)

// test is an operator and what stands behind it: tests of its own, or a value.
type test struct {
	operator string
	value    api.Value
	inner    tests
}

type tests []test

// hold asks for a path's value, which is there or missing.
func (l tests) hold(v api.Value, there bool) bool {
	for _, t := range l {
		if !t.holds(v, there) {
			return false
		}
	}
	return true
}

// holds leaves to the other operators what they need the value to be there for.
func (t test) holds(v api.Value, there bool) bool {
	switch t.operator {
	case "$ne":
		return !(there && order.Equal(v, t.value))
	case "$nin":
		return !(there && t.hasAmongValues(v))
	case "$not":
		return !t.inner.hold(v, there)
	case "$exists":
		return there == (t.value.N == 1)
	}
	return there && t.holdsOf(v)
}

func (t test) holdsOf(v api.Value) bool {
	switch t.operator {
	case "$eq":
		return order.Equal(v, t.value)
	case "$in":
		return t.hasAmongValues(v)
	case "$size":
		return v.Kind == api.List && int64(len(v.L)) == t.value.N
	case "$kind":
		return int64(v.Kind) == t.value.N
	case "$any":
		return v.Kind == api.List && slices.ContainsFunc(v.L, t.allHoldOf)
	}
	return v.Kind == t.value.Kind && t.isInOrder(order.Compare(v, t.value))
}

func (t test) hasAmongValues(v api.Value) bool {
	return slices.ContainsFunc(t.value.L, func(one api.Value) bool { return order.Equal(v, one) })
}

func (t test) allHoldOf(element api.Value) bool { return t.inner.hold(element, true) }

// isInOrder asks for how the value goes with the one of the test: an operator
// that takes equal ones, too, is for the rest the one that it includes.
func (t test) isInOrder(compared int) bool {
	switch t.operator {
	case "$gte":
		if compared == 0 {
			return true
		}
		fallthrough
	case "$gt":
		return compared > 0
	case "$lte":
		if compared == 0 {
			return true
		}
		fallthrough
	case "$lt":
		return compared < 0
	}
	return false
}
