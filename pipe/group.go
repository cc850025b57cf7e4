package pipe

import (
	"slices"

	"sheaf/api"
	"sheaf/expr"
	"sheaf/number"
	"sheaf/order"
)

// group makes an object of each group: of by, and of what its entries gather.
type group struct {
	making
	names   []string // that of by ahead of those of the entries
	by      expr.Expr
	entries []entry
	// groups are the objects as they are so far, in the order of their first
	// documents; like what is made, they are those of one run.
	groups []api.Value
}

// run asks for what is too big behind all documents, in a second turn, in
// which the groups are counted.
func (g group) run(docs []api.Value) ([]api.Value, int, api.Errno) {
	if _, at, errno := g.each(docs, g.take); errno != api.OK {
		return nil, at, errno
	}
	return g.each(g.groups, g.emit)
}

func (g *group) take(doc api.Value) api.Errno {
	by, errno := g.by.Of(doc)
	if errno != api.OK {
		return errno
	}
	gathered := g.gathered(by)
	for i, e := range g.entries {
		if gathered[i], errno = e.add(gathered[i], doc); errno != api.OK {
			return errno
		}
	}
	return api.OK
}

// gathered is where the entries of a group gather: the values of its object
// behind the first one, which is by.
func (g *group) gathered(by api.Value) []api.Value {
	at := slices.IndexFunc(g.groups, func(one api.Value) bool { return order.Equal(one.L[0], by) })
	if at < 0 {
		at = len(g.groups)
		g.groups = append(g.groups, g.start(by))
	}
	return g.groups[at].L[1:]
}

// start has no values but by yet: what is of no kind stands for them.
func (g *group) start(by api.Value) api.Value {
	made := api.Value{Kind: api.Object, K: g.names, L: make([]api.Value, len(g.names))}
	made.L[0] = by
	return made
}

// entry is how the values of an expression are gathered.
type entry struct {
	operator string
	value    expr.Expr
}

func (e entry) add(soFar, doc api.Value) (api.Value, api.Errno) {
	v, errno := e.value.Of(doc)
	if errno != api.OK {
		return api.Value{}, errno
	}
	switch e.operator {
	case "$sum":
		return sum(soFar, v)
	case "$list":
		return api.Value{Kind: api.List, L: append(soFar.L, v)}, api.OK
	}
	if soFar.Kind == 0 || e.replaces(soFar, v) {
		return v, api.OK
	}
	return soFar, api.OK
}

// replaces tells whether a value takes the place of the one ahead of it.
func (e entry) replaces(soFar, v api.Value) bool {
	switch e.operator {
	case "$min":
		return order.Compare(v, soFar) < 0
	case "$max":
		return order.Compare(v, soFar) > 0
	}
	return e.operator == "$last"
}

func sum(soFar, v api.Value) (api.Value, api.Errno) {
	if v.Kind != api.Number {
		return api.Value{}, api.ErrType
	}
	n, fits := number.Add(soFar.N, v.N)
	if !fits {
		return api.Value{}, api.ErrOver
	}
	return api.Value{Kind: api.Number, N: n}, api.OK
}
