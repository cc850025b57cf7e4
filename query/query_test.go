package query_test

import (
	"testing"

	"sheaf/api"
	"sheaf/query"
)

func TestOperatorsBeginWithADollar(t *testing.T) {
	for name, want := range map[string]bool{"$a": true, "$": true, "$$": true, "$.": true, "": false, "a": false, "a$": false, " $a": false, "＄": false} {
		if got := query.IsOperator(name); got != want {
			t.Errorf("IsOperator(%q) = %t", name, got)
		}
	}
}

func TestOnlyEntry(t *testing.T) {
	one := api.Value{Kind: api.Number, N: 1}
	name, v, ok := query.OnlyEntry(api.Value{Kind: api.Object, K: []string{"a"}, L: []api.Value{one}})
	if name != "a" || v.N != 1 || !ok {
		t.Errorf("%q, %v, %t", name, v, ok)
	}
	for _, v := range []api.Value{{Kind: api.Object}, {Kind: api.Object, K: []string{"a", "b"}, L: []api.Value{one, one}}, {Kind: api.List, L: []api.Value{one}}, {Kind: api.Null}, one, {}} {
		if name, inner, ok := query.OnlyEntry(v); name != "" || inner.Kind != 0 || ok {
			t.Errorf("OnlyEntry(%v) = %q, %v, %t", v, name, inner, ok)
		}
	}
}
