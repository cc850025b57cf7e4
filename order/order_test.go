package order_test

import (
	"cmp"
	"strings"
	"testing"

	"sheaf/api"
	"sheaf/order"
	"sheaf/text"
)

func TestOrderOfValues(t *testing.T) {
	rising := []string{`null`, `false`, `true`, `-9223372036854775808`, `-1`, `0`, `10`, `""`, `"B"`, `"a"`, `"aa"`, `"é"`, `[]`, `[null]`, `[1]`, `[1,0]`, `[2]`, `[[]]`, `{}`, `{"a":1}`, `{"a":1,"b":0}`, `{"a":2}`, `{"b":0}`, `{"b":0,"a":0}`}
	for i, a := range rising {
		for k, b := range rising {
			v, _ := text.Parse(a)
			w, _ := text.Parse(b)
			if got := order.Compare(v, w); got != cmp.Compare(i, k) {
				t.Errorf("P6: Compare(%s, %s) = %d", a, b, got)
			}
			if got := order.Equal(v, w); got != (i == k) {
				t.Errorf("P6: Equal(%s, %s) = %t", a, b, got)
			}
		}
	}
}

// TestOrderOfLongTexts: what is worked out may be longer than what may be handed in.
func TestOrderOfLongTexts(t *testing.T) {
	long := strings.Repeat("x", api.MaxText)
	a, b := api.Value{Kind: api.Text, S: long + "a"}, api.Value{Kind: api.Text, S: long + "b"}
	if order.Compare(a, b) != -1 || order.Equal(a, b) || !order.Equal(a, a) {
		t.Error("P6: texts that differ behind MaxText bytes")
	}
}
