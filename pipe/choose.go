package pipe

import (
	"slices"

	"sheaf/api"
	"sheaf/filter"
	"sheaf/order"
	"sheaf/path"
)

type match struct{ filter.Filter }

func (m match) run(docs []api.Value) ([]api.Value, int, api.Errno) {
	return m.Among(docs), 0, api.OK
}

// count is what the stages have in common that count documents off.
type count struct{ n int64 }

// of is how many of the documents are counted off: there may be fewer than n.
func (c count) of(docs []api.Value) int { return int(min(c.n, int64(len(docs)))) }

type (
	skip  struct{ count }
	limit struct{ count }
)

func (s skip) run(docs []api.Value) ([]api.Value, int, api.Errno) {
	return docs[s.of(docs):], 0, api.OK
}

func (l limit) run(docs []api.Value) ([]api.Value, int, api.Errno) {
	return docs[:l.of(docs)], 0, api.OK
}

// ordering has the key that counts most first.
type ordering []key

// key is a path, and 1 or -1: which way round.
type key struct {
	path.Path
	direction int
}

func (o ordering) run(docs []api.Value) ([]api.Value, int, api.Errno) {
	sorted := slices.Clone(docs)
	slices.SortStableFunc(sorted, o.compare)
	return sorted, 0, api.OK
}

func (o ordering) compare(a, b api.Value) int {
	for _, k := range o {
		if c := order.Compare(k.OrNull(a), k.OrNull(b)); c != 0 {
			return c * k.direction
		}
	}
	return 0
}
