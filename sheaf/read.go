package sheaf

import (
	"slices"

	"sheaf/api"
	"sheaf/filter"
	"sheaf/text"
)

// idName is the name of the entry by which a document is told from others.
const idName = "_id"

func isName(s string) bool {
	for i := range len(s) {
		if s[i] < 'a' || s[i] > 'z' {
			return false
		}
	}
	return 1 <= len(s) && len(s) <= api.MaxName
}

func readDocument(s string) (api.Value, api.Errno) {
	d, errno := text.Parse(s)
	if errno != api.OK {
		return api.Value{}, errno
	}
	if !isDocument(d) {
		return api.Value{}, api.ErrDoc
	}
	if isTooBig(d) {
		return api.Value{}, api.ErrBig
	}
	return d, api.OK
}

func isDocument(v api.Value) bool {
	if v.Kind != api.Object || !slices.Contains(v.K, idName) {
		return false
	}
	kind := idOf(v).Kind
	return kind == api.Number || kind == api.Text
}

func idOf(doc api.Value) api.Value { return doc.L[slices.Index(doc.K, idName)] }

func isTooBig(doc api.Value) bool {
	bytes, errno := text.Encode(doc)
	return errno != api.OK || len(bytes) > api.MaxDoc
}

// printed takes for granted that the documents are values.
func printed(docs []api.Value) []string {
	var texts []string
	for _, doc := range docs {
		s, _ := text.Print(doc)
		texts = append(texts, s)
	}
	return texts
}

// search reads a filter ahead of asking for the collection: what is wrong with
// the filter is told first.
func (s *Store) search(name, query string) (*collection, filter.Filter, api.Errno) {
	v, errno := text.Parse(query)
	if errno != api.OK {
		return nil, nil, errno
	}
	f, errno := filter.Parse(v)
	if errno != api.OK {
		return nil, nil, errno
	}
	c := s.collections[name]
	if c == nil {
		return nil, nil, api.ErrNone
	}
	return c, f, api.OK
}
