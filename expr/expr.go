// Package expr: the values that expressions work out from a document: see
// DOC.md, P11.
package expr

import (
	"slices"
	"strings"

	"sheaf/api"
	"sheaf/filter"
	"sheaf/path"
	"sheaf/refusal"
)

// Expr works out a value, which may have more bytes than a value may.
type Expr interface {
	Of(doc api.Value) (api.Value, api.Errno)
}

// Parse reads an expression from the value that it is written as; the
// expression is not to be used once that has changed.
func Parse(v api.Value) (Expr, api.Errno) {
	return refusal.Attempt(func() Expr { return parseExpr(v) })
}

// List is worked out from the left, up to the first error.
type List []Expr

// Of is as many values as there are expressions, if there is no error.
func (l List) Of(doc api.Value) ([]api.Value, api.Errno) {
	var values []api.Value
	for _, e := range l {
		v, errno := e.Of(doc)
		if errno != api.OK {
			return nil, errno
		}
		values = append(values, v)
	}
	return values, api.OK
}

type itself struct{ value api.Value }

func (e itself) Of(api.Value) (api.Value, api.Errno) { return e.value, api.OK }

// found is what lies at the end of a path.
type found struct{ path.Path }

func (e found) Of(doc api.Value) (api.Value, api.Errno) { return e.OrNull(doc), api.OK }

// operands is what the operators have in common whose operands must all be of
// one kind.
type operands struct {
	kind int
	list List
}

// values are worked out, all of them, ahead of asking for their kinds.
func (o operands) values(doc api.Value) ([]api.Value, api.Errno) {
	values, errno := o.list.Of(doc)
	if errno != api.OK {
		return nil, errno
	}
	if slices.ContainsFunc(values, o.isOther) {
		return nil, api.ErrType
	}
	return values, api.OK
}

func (o operands) isOther(v api.Value) bool { return v.Kind != o.kind }

// arithmetic has two Numbers, and tells whether the result fits.
type arithmetic struct {
	operands
	result func(a, b int64) (int64, bool)
}

func (e arithmetic) Of(doc api.Value) (api.Value, api.Errno) {
	values, errno := e.values(doc)
	if errno != api.OK {
		return api.Value{}, errno
	}
	n, fits := e.result(values[0].N, values[1].N)
	if !fits {
		return api.Value{}, api.ErrOver
	}
	return api.Value{Kind: api.Number, N: n}, api.OK
}

// joined has one Text or more.
type joined struct{ operands }

func (e joined) Of(doc api.Value) (api.Value, api.Errno) {
	values, errno := e.values(doc)
	if errno != api.OK {
		return api.Value{}, errno
	}
	var b strings.Builder
	for _, v := range values {
		b.WriteString(v.S)
	}
	return api.Value{Kind: api.Text, S: b.String()}, api.OK
}

// length has one List.
type length struct{ operands }

func (e length) Of(doc api.Value) (api.Value, api.Errno) {
	values, errno := e.values(doc)
	if errno != api.OK {
		return api.Value{}, errno
	}
	return api.Value{Kind: api.Number, N: int64(len(values[0].L))}, api.OK
}

// choice works out just one of its expressions.
type choice struct {
	filter          filter.Filter
	then, otherwise Expr
}

func (e choice) Of(doc api.Value) (api.Value, api.Errno) {
	if e.filter.Holds(doc) {
		return e.then.Of(doc)
	}
	return e.otherwise.Of(doc)
}
