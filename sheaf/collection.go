package sheaf

import (
	"slices"

	"sheaf/api"
	"sheaf/filter"
	"sheaf/order"
)

// collection has its documents in the order in which they were inserted.
type collection struct {
	docs []api.Value
}

func (c *collection) insert(doc api.Value) api.Errno {
	if c.hasID(idOf(doc)) {
		return api.ErrThere
	}
	if len(c.docs) >= api.MaxDocs {
		return api.ErrFull
	}
	c.docs = append(c.docs, doc)
	return api.OK
}

func (c *collection) hasID(id api.Value) bool {
	return slices.ContainsFunc(c.docs, func(doc api.Value) bool { return order.Equal(idOf(doc), id) })
}

// remove answers how many documents it takes away.
func (c *collection) remove(f filter.Filter) int {
	before := len(c.docs)
	c.docs = slices.DeleteFunc(c.docs, f.Holds)
	return before - len(c.docs)
}
