package text_test

import (
	"strings"
	"testing"

	"sheaf/api"
	"sheaf/text"
)

// What the tests make values of, and hold them against.

func null() api.Value               { return api.Value{Kind: api.Null} }
func truth(n int64) api.Value       { return api.Value{Kind: api.Bool, N: n} }
func number(n int64) api.Value      { return api.Value{Kind: api.Number, N: n} }
func word(s string) api.Value       { return api.Value{Kind: api.Text, S: s} }
func list(l ...api.Value) api.Value { return api.Value{Kind: api.List, L: l} }

func entry(name string, v api.Value) api.Value {
	return api.Value{Kind: api.Object, K: []string{name}, L: []api.Value{v}}
}

// object is one of the entries of all these objects.
func object(entries ...api.Value) api.Value {
	v := api.Value{Kind: api.Object}
	for _, e := range entries {
		v.K = append(v.K, e.K...)
		v.L = append(v.L, e.L...)
	}
	return v
}

func times(n int, v api.Value) api.Value {
	all := api.Value{Kind: api.List}
	for range n {
		all.L = append(all.L, v)
	}
	return all
}

// within lays a value into so many lists.
func within(n int, v api.Value) api.Value {
	for range n {
		v = list(v)
	}
	return v
}

func same(a, b api.Value) bool {
	if a.Kind != b.Kind || a.N != b.N || a.S != b.S || len(a.L) != len(b.L) || len(a.K) != len(b.K) {
		return false
	}
	for i := range a.K {
		if a.K[i] != b.K[i] {
			return false
		}
	}
	for i := range a.L {
		if !same(a.L[i], b.L[i]) {
			return false
		}
	}
	return true
}

func isZero(v api.Value) bool { return same(v, api.Value{}) }

// simple are values of each kind without others in them, in rising order.
func simple() []api.Value {
	return []api.Value{
		null(), truth(0), truth(1),
		number(-1 << 63), number(-256), number(-1), number(0), number(1), number(255), number(256), number(1<<63 - 1),
		word(""), word("\x00"), word("\x1f"), word("\""), word("$"), word("/"), word("10"), word("9"), word("A"), word("\\"), word("a"), word("a\x00"), word("aa"), word("b"), word("\x7f"), word("é"), word("\ufffd"), word("😀"),
		list(), object(),
	}
}

// samples are simple values, and lists and objects of up to two of them.
func samples() []api.Value {
	all := simple()
	for _, a := range simple() {
		all = append(all, list(a), entry("a", a), entry("\"\n", a), within(11, a))
		for _, b := range simple() {
			all = append(all, list(a, b), object(entry("b", a), entry("a", b)))
		}
	}
	return all
}

// circle is a list that lies within itself.
func circle() api.Value {
	l := make([]api.Value, 1)
	l[0] = api.Value{Kind: api.List, L: l}
	return l[0]
}

// ring is an object that lies within itself, twice.
func ring() api.Value {
	v := api.Value{Kind: api.Object, K: []string{"a", "b"}, L: make([]api.Value, 2)}
	v.L[0], v.L[1] = v, v
	return v
}

// wide has little memory, but more elements than can be walked.
func wide() api.Value {
	v := list()
	for range api.MaxDeep - 1 {
		v = times(100, v)
	}
	return v
}

// full is a list of just MaxBytes bytes, and some more.
func full(more int) api.Value {
	v := times(261, word(strings.Repeat("x", api.MaxText)))
	left := api.MaxBytes - 5 - 261*(5+api.MaxText) - 5
	v.L = append(v.L, word(strings.Repeat("y", left+more)))
	return v
}

// fullOfKinds are such lists with a value of each kind at the end.
func fullOfKinds(more int) map[string]api.Value {
	all := map[string]api.Value{}
	for _, c := range []struct {
		name  string
		last  api.Value
		bytes int
	}{{"Null", null(), 1}, {"Bool", truth(1), 2}, {"Number", number(7), 9}, {"Text", word("ab"), 7}, {"empty List", list(), 5}, {"List", list(truth(0)), 7}, {"empty Object", object(), 5}, {"Object", entry("ab", null()), 10}} {
		v := full(more - c.bytes)
		v.L = append(v.L, c.last)
		all["List with "+c.name+" at the end"] = v
	}
	return all
}

// fullObject is the same of an object, by the length of its last name.
func fullObject(more int) api.Value {
	v := api.Value{Kind: api.Object}
	left := api.MaxBytes - 5
	for i := 0; left > 0; i++ {
		name := string(rune('a'+i/26)) + string(rune('a'+i%26))
		size := min(left-3, api.MaxText)
		if size == left-3 {
			size += more
		}
		left -= size + 3
		v.K = append(v.K, name+strings.Repeat("n", size-2))
		v.L = append(v.L, null())
	}
	return v
}

// noValues are values that are none, each for another reason.
func noValues() map[string]api.Value {
	long := strings.Repeat("x", api.MaxText+1)
	one := []api.Value{null()}
	name := []string{"a"}
	all := map[string]api.Value{
		"no kind": {}, "kind 7": {Kind: 7}, "kind -1": {Kind: -1}, "kind 257": {Kind: 257}, "kind 2^32+1": {Kind: 1<<32 + 1},
		"Null with N": {Kind: api.Null, N: 1}, "Null with S": {Kind: api.Null, S: "x"}, "Null with L": {Kind: api.Null, L: one}, "Null with K": {Kind: api.Null, K: name},
		"Bool 2": truth(2), "Bool -1": truth(-1), "Bool 256": truth(256), "Bool with S": {Kind: api.Bool, S: "x"}, "Bool with L": {Kind: api.Bool, L: one}, "Bool with K": {Kind: api.Bool, K: name},
		"Number with S": {Kind: api.Number, S: "x"}, "Number with L": {Kind: api.Number, L: one}, "Number with K": {Kind: api.Number, K: name},
		"Text with N": {Kind: api.Text, N: 1}, "Text with L": {Kind: api.Text, L: one}, "Text with K": {Kind: api.Text, K: name},
		"Text of a lone byte": word("a\xff"), "Text cut off": word("\xf0\x9f\x98"), "Text with a surrogate": word("\xed\xa0\x80"), "Text beyond 10ffff": word("\xf4\x90\x80\x80"), "Text overlong": word("\xc0\x80"), "Text too long": word(long),
		"List with N": {Kind: api.List, N: 1}, "List with S": {Kind: api.List, S: "x"}, "List with K": {Kind: api.List, K: name, L: one}, "List of none": list(number(1), api.Value{}),
		"Object with N": {Kind: api.Object, N: 1}, "Object with S": {Kind: api.Object, S: "x"}, "Object of a name alone": {Kind: api.Object, K: name}, "Object of a value alone": {Kind: api.Object, L: one},
		"Object of a name twice": object(entry("a", null()), entry("b", null()), entry("a", number(1))), "Object of the empty name twice": object(entry("", null()), entry("", null())),
		"Object with a name of a lone byte": entry("\x80", null()), "Object with a name too long": entry(long, null()), "Object of none": entry("a", api.Value{}),
		"Name twice within": list(entry("a", list(object(entry("x", null()), entry("x", null()))))),
		"13 deep":           within(13, number(1)), "13 deep, empty": within(12, list()), "13 deep, objects": within(12, object()), "13 deep behind others": list(number(1), within(12, null())),
		"One byte too large": full(1), "Object one byte too large": fullObject(1), "Too many Nulls": times(api.MaxBytes-4, null()),
		"Circle": circle(), "Ring": ring(), "Wide": wide(),
	}
	for name, v := range fullOfKinds(1) {
		all["One byte too large: "+name] = v
	}
	return all
}

// changed is a text with one byte left out, put in or changed, at each place in each way, and its beginnings and ends.
func changed(good string) []string {
	var all []string
	for at := range len(good) {
		all = append(all, good[:at], good[at:], good[:at]+good[at+1:])
		for c := range 256 {
			one := string([]byte{byte(c)})
			all = append(all, good[:at]+one+good[at:], good[:at]+one+good[at+1:])
		}
	}
	return all
}

// mustPrint and mustEncode are for values of which a test knows that they are some.
func mustPrint(t *testing.T, v api.Value) string {
	t.Helper()
	s, errno := text.Print(v)
	if errno != api.OK {
		t.Fatalf("Print(%.200v) = error %d", v, errno)
	}
	return s
}

func mustEncode(t *testing.T, v api.Value) string {
	t.Helper()
	s, errno := text.Encode(v)
	if errno != api.OK {
		t.Fatalf("Encode(%.200v) = error %d", v, errno)
	}
	return s
}
