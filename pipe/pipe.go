// Package pipe: pipelines, which take documents through stages: see DOC.md,
// P10, P12 and P13.
package pipe

import (
	"sheaf/api"
	"sheaf/refusal"
)

// Pipeline is stages, one behind the other.
type Pipeline []stage

// stage answers, with an error, the number of the document at which it
// happened. What comes in is not written into: a collection may have it.
type stage interface {
	run(docs []api.Value) ([]api.Value, int, api.Errno)
}

// Fault is an error, and where it happened; one of zeros is none.
type Fault struct {
	Stage, Doc int
	Errno      api.Errno
}

// Parse reads a pipeline from the value that it is written as; the pipeline is
// not to be used once that has changed.
func Parse(v api.Value) (Pipeline, api.Errno) {
	return refusal.Attempt(func() Pipeline { return parsePipeline(v) })
}

// Run answers what comes out of the last stage; that may be docs itself.
func (p Pipeline) Run(docs []api.Value) ([]api.Value, Fault) {
	for i, s := range p {
		out, at, errno := s.run(docs)
		if errno != api.OK {
			return nil, Fault{Stage: i, Doc: at, Errno: errno}
		}
		docs = out
	}
	return docs, Fault{}
}
