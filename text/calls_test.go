package text_test

import (
	"testing"

	"sheaf/api"
	"sheaf/text"
)

// TestNoTextPanics: P1 for all texts of up to two bytes, and for some of three between brackets and quotes.
func TestNoTextPanics(t *testing.T) {
	check := func(s string) {
		if v, errno := text.Parse(s); errno != api.OK && !isZero(v) || errno == api.OK && v.Kind == 0 {
			t.Errorf("P1: Parse(%q) = %v, %d", s, v, errno)
		}
		if v, errno := text.Decode(s); errno != api.OK && !isZero(v) || errno == api.OK && mustEncode(t, v) != s {
			t.Errorf("P1: Decode(%q) = %v, %d", s, v, errno)
		}
	}
	check("")
	for a := range 256 {
		check(string([]byte{byte(a)}))
		for b := range 256 {
			two := string([]byte{byte(a), byte(b)})
			for _, s := range []string{two, `"` + two + `"`, "[" + two + "]", `{"` + two, `"\` + two + `"`} {
				check(s)
			}
		}
	}
}

// deface writes into all lists of a value, and into their spare room.
func deface(v api.Value) {
	for i := range v.L[:cap(v.L)] {
		if i < len(v.L) {
			deface(v.L[i])
		}
		v.L[:cap(v.L)][i] = word("defaced")
	}
	for i := range v.K[:cap(v.K)] {
		v.K[:cap(v.K)][i] = "defaced"
	}
}

// fillSpareRoom writes behind the ends of all lists of a value.
func fillSpareRoom(v api.Value) {
	for _, inner := range v.L {
		fillSpareRoom(inner)
	}
	for i := len(v.L); i < cap(v.L); i++ {
		v.L[:cap(v.L)][i] = word("defaced")
	}
	for i := len(v.K); i < cap(v.K); i++ {
		v.K[:cap(v.K)][i] = "defaced"
	}
}

func TestWhatComesOutIsNewMemory(t *testing.T) {
	s := `{"a":[1,2,[3],[4,5,6],{"x":7,"y":8,"z":[]}],"b":[1,2,3],"c":{"x":[9]}}`
	parsed, _ := text.Parse(s)
	bytes := mustEncode(t, parsed)
	for name, read := range map[string]func() (api.Value, api.Errno){
		"Parse":  func() (api.Value, api.Errno) { return text.Parse(s) },
		"Decode": func() (api.Value, api.Errno) { return text.Decode(bytes) },
	} {
		one, _ := read()
		two, _ := read()
		deface(one)
		if got := mustPrint(t, two); got != s {
			t.Errorf("P2: %s: two answers share a list: %s", name, got)
		}
		fillSpareRoom(two)
		if got := mustPrint(t, two); got != s {
			t.Errorf("P2: %s: two lists of an answer share their room: %s", name, got)
		}
		if three, _ := read(); mustPrint(t, three) != s {
			t.Errorf("P2: %s answers otherwise the next time: %v", name, three)
		}
	}
}

// roomy has lists with spare room in which something stands.
func roomy() api.Value {
	inner := append([]api.Value{number(2), number(1)}, word("behind"))[:2]
	return api.Value{Kind: api.Object, K: []string{"b", "a", "behind"}[:2], L: []api.Value{{Kind: api.List, L: inner}, word("x"), word("behind")}[:2]}
}

func TestWhatIsHandedInStaysAsItWas(t *testing.T) {
	v, w := roomy(), roomy()
	printed, bytes := mustPrint(t, v), mustEncode(t, v)
	text.Compare(v, w)
	for _, x := range []api.Value{v, w} {
		if !same(x, roomy()) || x.K[:3][2] != "behind" || x.L[:3][2].S != "behind" || x.L[0].L[:3][2].S != "behind" {
			t.Errorf("P2: a value was written into: %v", x)
		}
	}
	deface(v)
	if printed != mustPrint(t, w) || bytes != mustEncode(t, w) {
		t.Errorf("P2: an answer has changed: %q, %q", printed, bytes)
	}
}

func TestCallsDoNotHangOnEarlierCalls(t *testing.T) {
	want := mustPrint(t, roomy())
	text.Parse("[[[")
	text.Decode("\x05")
	text.Print(api.Value{})
	text.Encode(circle())
	if v, errno := text.Parse(want); errno != api.OK || !same(v, roomy()) || mustPrint(t, v) != want {
		t.Errorf("P2: %v, %d", v, errno)
	}
}
