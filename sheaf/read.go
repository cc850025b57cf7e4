package sheaf

import (
	"slices"

	"sheaf/api"
	"sheaf/document"
	"sheaf/filter"
	"sheaf/pipe"
	"sheaf/text"
)

func isName(s string) bool {
	for i := range len(s) {
		if s[i] < 'a' || s[i] > 'z' {
			return false
		}
	}
	return 1 <= len(s) && len(s) <= api.MaxName
}

func readDocument(s string) (api.Value, api.Errno) {
	d, errno := text.Parse(s)
	if errno != api.OK {
		return api.Value{}, errno
	}
	if !isDocument(d) {
		return api.Value{}, api.ErrDoc
	}
	if document.IsTooBig(d) {
		return api.Value{}, api.ErrBig
	}
	return d, api.OK
}

func isDocument(v api.Value) bool {
	if v.Kind != api.Object || !slices.Contains(v.K, document.IDName) {
		return false
	}
	kind := idOf(v).Kind
	return kind == api.Number || kind == api.Text
}

func idOf(doc api.Value) api.Value { return doc.L[slices.Index(doc.K, document.IDName)] }

// printed takes for granted that the documents are values.
func printed(docs []api.Value) []string {
	var texts []string
	for _, doc := range docs {
		s, _ := text.Print(doc)
		texts = append(texts, s)
	}
	return texts
}

func (s *Store) search(name, query string) (*collection, filter.Filter, api.Errno) {
	return read(s, name, query, filter.Parse)
}

func (s *Store) task(name, query string) (*collection, pipe.Pipeline, api.Errno) {
	return read(s, name, query, pipe.Parse)
}

// read reads what is asked for ahead of looking for the collection: what is
// wrong with it is told first.
func read[Q any](s *Store, name, query string, parse func(api.Value) (Q, api.Errno)) (*collection, Q, api.Errno) {
	var none Q
	v, errno := text.Parse(query)
	if errno != api.OK {
		return nil, none, errno
	}
	q, errno := parse(v)
	if errno != api.OK {
		return nil, none, errno
	}
	c := s.collections[name]
	if c == nil {
		return nil, none, api.ErrNone
	}
	return c, q, api.OK
}
