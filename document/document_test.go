package document_test

import (
	"strings"
	"testing"

	"sheaf/api"
	"sheaf/document"
)

// object is a document of one entry, a.
func object(v api.Value) api.Value {
	return api.Value{Kind: api.Object, K: []string{"a"}, L: []api.Value{v}}
}

func written(bytes int) api.Value { return api.Value{Kind: api.Text, S: strings.Repeat("x", bytes)} }

// lists is a List so deep.
func lists(deep int) api.Value {
	v := api.Value{Kind: api.List}
	for range deep - 1 {
		v = api.Value{Kind: api.List, L: []api.Value{v}}
	}
	return v
}

func TestIsTooBig(t *testing.T) {
	many := api.Value{Kind: api.List, L: make([]api.Value, 300)}
	for i := range many.L {
		many.L[i] = written(3900)
	}
	for _, c := range []struct {
		what string
		doc  api.Value
		want bool
	}{
		{"an empty one", api.Value{Kind: api.Object}, false},
		{"1000 bytes", object(written(987)), false}, {"1001 bytes", object(written(988)), true}, {"4000 bytes of text", object(written(4000)), true}, {"4001 bytes of text", object(written(4001)), true}, {"more than MaxBytes", object(many), true},
		{"12 deep", object(lists(11)), false}, {"13 deep", object(lists(12)), true}, {"100 deep", object(lists(99)), true},
	} {
		if got := document.IsTooBig(c.doc); got != c.want {
			t.Errorf("P13: %s is too big: %t", c.what, got)
		}
	}
}
