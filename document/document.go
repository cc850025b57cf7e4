// Package document: what holds of all documents, wherever they come from.
package document

import (
	"sheaf/api"
	"sheaf/text"
)

// IDName is the name of the entry by which a document is told from others.
const IDName = "_id"

// IsTooBig tells whether a document that was read or made has more bytes than
// one may have, or is no value any more, as one that is too deep.
func IsTooBig(doc api.Value) bool {
	bytes, errno := text.Encode(doc)
	return errno != api.OK || len(bytes) > api.MaxDoc
}
