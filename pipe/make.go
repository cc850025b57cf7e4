package pipe

import (
	"sheaf/api"
	"sheaf/document"
	"sheaf/expr"
	"sheaf/path"
)

// making is what the stages have in common that make documents. It gathers
// what comes out in one run: such a stage runs as a copy of itself, so that the
// next run finds nothing there.
type making struct{ made []api.Value }

// each works on one document after the other, up to the first error, and
// answers what has been made.
func (m *making) each(docs []api.Value, work func(doc api.Value) api.Errno) ([]api.Value, int, api.Errno) {
	for i, doc := range docs {
		if errno := work(doc); errno != api.OK {
			return nil, i, errno
		}
	}
	return m.made, 0, api.OK
}

func (m *making) emit(doc api.Value) api.Errno {
	if document.IsTooBig(doc) {
		return api.ErrBig
	}
	m.made = append(m.made, doc)
	return api.OK
}

// project has a value for each name.
type project struct {
	making
	names  []string
	values expr.List
}

func (p project) run(docs []api.Value) ([]api.Value, int, api.Errno) { return p.each(docs, p.take) }

func (p *project) take(doc api.Value) api.Errno {
	values, errno := p.values.Of(doc)
	if errno != api.OK {
		return errno
	}
	return p.emit(api.Value{Kind: api.Object, K: p.names, L: values})
}

type unwind struct {
	making
	path.Path
}

func (u unwind) run(docs []api.Value) ([]api.Value, int, api.Errno) { return u.each(docs, u.take) }

func (u *unwind) take(doc api.Value) api.Errno {
	list, _ := u.From(doc)
	if list.Kind != api.List {
		return api.ErrType
	}
	for _, element := range list.L {
		if errno := u.emit(u.Put(doc, element)); errno != api.OK {
			return errno
		}
		if len(u.made) > api.MaxOut {
			return api.ErrFull
		}
	}
	return api.OK
}
