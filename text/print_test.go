package text_test

import (
	"fmt"
	"strings"
	"testing"

	"sheaf/api"
	"sheaf/text"
)

func TestPrintWritesTexts(t *testing.T) {
	for _, c := range []struct {
		v    api.Value
		want string
	}{
		{null(), "null"}, {truth(1), "true"}, {truth(0), "false"},
		{number(0), "0"}, {number(10), "10"}, {number(-7), "-7"}, {number(1<<63 - 1), "9223372036854775807"}, {number(-1 << 63), "-9223372036854775808"},
		{word(""), `""`}, {word("a b/é😀\x7f\u2028\ufffd"), "\"a b/é😀\x7f\u2028\ufffd\""}, {word(`"\`), `"\"\\"`}, {word("<&>'"), `"<&>'"`},
		{list(), "[]"}, {list(number(1)), "[1]"}, {list(number(1), list(), word("x")), `[1,[],"x"]`},
		{object(), "{}"}, {entry("", null()), `{"":null}`}, {object(entry("b", number(1)), entry("a\"\n", list(object()))), `{"b":1,"a\"\u000a":[{}]}`},
		{entry("a", list(number(1), word("é"))), `{"a":[1,"é"]}`},
		{within(12, number(1)), brackets(12, "1")},
		{api.Value{Kind: api.Null, L: []api.Value{}, K: []string{}}, "null"}, {api.Value{Kind: api.List, L: []api.Value{}, K: []string{}}, "[]"}, {api.Value{Kind: api.Object, L: []api.Value{}}, "{}"},
		{word(strings.Repeat("\x01", api.MaxText)), `"` + strings.Repeat(`\u0001`, api.MaxText) + `"`},
	} {
		if s, errno := text.Print(c.v); s != c.want || errno != api.OK {
			t.Errorf("P4: Print(%.200v) = %.200q, %d, want %.200q", c.v, s, errno, c.want)
		}
	}
}

func TestPrintEscapesEveryLowRune(t *testing.T) {
	for c := range 128 {
		want := `"` + string(rune(c)) + `"`
		if c < 32 {
			want = fmt.Sprintf(`"\u%04x"`, c)
		} else if c == '"' || c == '\\' {
			want = `"\` + string(rune(c)) + `"`
		}
		if s, errno := text.Print(word(string(rune(c)))); s != want || errno != api.OK {
			t.Errorf("P4: Print of rune %d = %q, %d, want %q", c, s, errno, want)
		}
	}
}

func TestPrintRefusesNoValue(t *testing.T) {
	for why, v := range noValues() {
		if s, errno := text.Print(v); s != "" || errno != api.ErrValue {
			t.Errorf("P4: %s: Print = %.100q, %d", why, s, errno)
		}
	}
}

func TestPrintTakesTheGreatestValues(t *testing.T) {
	for _, v := range []api.Value{full(0), fullObject(0), times(api.MaxBytes-5, null()), within(12, null()), within(11, object()), word(strings.Repeat("é", api.MaxText/2)), entry(strings.Repeat("n", api.MaxText), null())} {
		if s, errno := text.Print(v); s == "" || errno != api.OK {
			t.Errorf("P4: Print(%.50v) = %.50q, %d", v, s, errno)
		}
	}
}

func TestWhatIsPrintedIsParsedAsItWas(t *testing.T) {
	for _, v := range samples() {
		s := mustPrint(t, v)
		if back, errno := text.Parse(s); errno != api.OK || !same(back, v) {
			t.Errorf("P3, P4: Parse(%q) = %v, %d, want %v", s, back, errno, v)
		}
	}
}
