package text_test

import (
	"cmp"
	"testing"

	"sheaf/api"
	"sheaf/text"
)

// rising are values in rising order.
func rising() []api.Value {
	return append(simple()[:len(simple())-2],
		list(), list(null()), list(null(), null()), list(number(-5), word("z")), list(number(1)), list(number(1), number(0)), list(number(1), number(0), null()), list(number(1), number(1)), list(number(2)), list(word("")), list(list()), list(list(), null()), list(list(null())), list(object()),
		object(), entry("", object()), entry("", entry("a", null())), entry("a", null()), object(entry("a", null()), entry("A", null())), object(entry("a", null()), entry("b", null())), entry("a", number(1)), object(entry("a", number(1)), entry("b", number(1))), object(entry("a", number(1)), entry("b", number(2))), object(entry("a", number(1)), entry("c", number(0))), entry("a", number(2)), entry("a", word("")), entry("aa", null()), object(entry("b", null()), entry("a", number(9))), entry("b", number(0)), entry("é", null()),
	)
}

func TestCompareOrdersValues(t *testing.T) {
	l := rising()
	for i, a := range l {
		for k, b := range l {
			if n, errno := text.Compare(a, b); n != cmp.Compare(i, k) || errno != api.OK {
				t.Errorf("P6: Compare(%v, %v) = %d, %d, want %d", a, b, n, errno, cmp.Compare(i, k))
			}
		}
	}
}

// TestEqualIsTheSame: of values just those are equal whose bytes are the same, and the two ways round are opposite.
func TestEqualIsTheSame(t *testing.T) {
	l := samples()
	for i := 0; i < len(l); i += 3 {
		for k := 0; k < len(l); k += 7 {
			n, errno := text.Compare(l[i], l[k])
			back, _ := text.Compare(l[k], l[i])
			if errno != api.OK || n != -back || (n == 0) != same(l[i], l[k]) {
				t.Errorf("P6: Compare(%v, %v) = %d, %d, back %d", l[i], l[k], n, errno, back)
			}
		}
	}
	empty := api.Value{Kind: api.List, L: []api.Value{}, K: []string{}}
	if n, errno := text.Compare(empty, list()); n != 0 || errno != api.OK {
		t.Errorf("P2, P6: an empty list and nil: %d, %d", n, errno)
	}
}

func TestCompareWalksTheGreatestValues(t *testing.T) {
	a, b := full(0), full(-1)
	if n, errno := text.Compare(a, b); n != 1 || errno != api.OK {
		t.Errorf("P6: %d, %d", n, errno)
	}
	if n, errno := text.Compare(within(12, number(1)), within(12, number(2))); n != -1 || errno != api.OK {
		t.Errorf("P6: %d, %d", n, errno)
	}
}

func TestCompareRefusesNoValue(t *testing.T) {
	for why, v := range noValues() {
		for _, pair := range [][2]api.Value{{v, null()}, {null(), v}, {v, v}, {object(), v}, {v, object()}} {
			if n, errno := text.Compare(pair[0], pair[1]); n != 0 || errno != api.ErrValue {
				t.Errorf("P6: %s: Compare = %d, %d", why, n, errno)
			}
		}
	}
}
