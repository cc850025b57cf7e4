package path_test

import (
	"slices"
	"strings"
	"testing"

	"sheaf/api"
	"sheaf/path"
	"sheaf/text"
)

func TestPathsAreStepsOfOneByteOrMore(t *testing.T) {
	for s, want := range map[string][]string{"a": {"a"}, "a.b": {"a", "b"}, "0.00.-1": {"0", "00", "-1"}, " . ": {" ", " "}, "$a.$": {"$a", "$"}, "é.\x00": {"é", "\x00"}, "a b.c": {"a b", "c"}} {
		if p, ok := path.Parse(s); !ok || !slices.Equal(p, want) {
			t.Errorf("Parse(%q) = %q, %t", s, p, ok)
		}
	}
	for _, s := range []string{"", ".", "..", "a.", ".a", "a..b", "a.b.", ".a.b"} {
		if p, ok := path.Parse(s); ok || p != nil {
			t.Errorf("Parse(%q) = %q, %t", s, p, ok)
		}
	}
}

func TestWhereAPathLeads(t *testing.T) {
	doc, errno := text.Parse(`{"a":{"b":[10,[20,21],{"c":30,"0":31}],"":1,"x.y":2},"0":{"0":{"01":40}},"n":null,"é":"é","s":"text","l":[0,1,2,3,4,5,6,7,8,9,"ten"],"$d":{"$e":50},"e":[]}`)
	if errno != api.OK {
		t.Fatal(errno)
	}
	for s, want := range map[string]string{
		"a.b.0": "10", "a.b.1": "[20,21]", "a.b.1.1": "21", "a.b.2.c": "30", "a.b.2.0": "31", "0": `{"0":{"01":40}}`, "0.0.01": "40", "n": "null", "é": `"é"`, "s": `"text"`, "l.0": "0", "l.9": "9", "l.10": `"ten"`, "$d": `{"$e":50}`, "$d.$e": "50", "e": "[]",
		"b": "", "A": "", "a.x": "", "a.x.y": "", "a.b.3": "", "a.b.-1": "", "a.b.-0": "", "a.b.+1": "", "a.b.00": "", "a.b.01": "", "a.b. 1": "", "a.b.1 ": "", "a.b.1a": "", "a.b.0x1": "", "a.b.1_0": "", "a.b.1e0": "", "a.b.c": "", "a.b.١": "", "l.010": "", "l.11": "", "l.1_0": "", "l.4294967296": "", "l.18446744073709551616": "", "l.9223372036854775808": "", "l.99999999999999999999999": "", "a.b.0.0": "", "n.a": "", "n.0": "", "s.0": "", "s.length": "", "0.1": "", "e.0": "", "a.b.1.2": "",
	} {
		p, ok := path.Parse(s)
		if !ok {
			t.Errorf("Parse(%q)", s)
		}
		v, there := p.From(doc)
		got, _ := text.Print(v)
		if there != (want != "") || got != want {
			t.Errorf("%s leads to %q, %t, want %q", s, got, there, want)
		}
		if !there {
			want = "null"
		}
		if got, _ := text.Print(p.OrNull(doc)); got != want {
			t.Errorf("%s leads to %q, or Null, want %q", s, got, want)
		}
	}
}

func TestLongPathsLeadNowhere(t *testing.T) {
	doc, _ := text.Parse(`{"a":[{"a":1}]}`)
	p, ok := path.Parse("a" + strings.Repeat(".0", 1990))
	if v, there := p.From(doc); !ok || there || v.Kind != 0 {
		t.Errorf("%t, %v, %t", ok, v, there)
	}
}

func TestPut(t *testing.T) {
	const written = `{"a":{"b":[10,[20,21]],"c":1},"d":[],"$e":{"f":null}}`
	for s, want := range map[string]string{
		"a": `{"a":"new","d":[],"$e":{"f":null}}`, "a.b": `{"a":{"b":"new","c":1},"d":[],"$e":{"f":null}}`, "a.b.0": `{"a":{"b":["new",[20,21]],"c":1},"d":[],"$e":{"f":null}}`, "a.b.1.1": `{"a":{"b":[10,[20,"new"]],"c":1},"d":[],"$e":{"f":null}}`, "d": `{"a":{"b":[10,[20,21]],"c":1},"d":"new","$e":{"f":null}}`, "$e.f": `{"a":{"b":[10,[20,21]],"c":1},"d":[],"$e":{"f":"new"}}`,
		"x": written, "a.x": written, "a.b.2": written, "d.0": written, "a.c.d": written, "$e.f.g": written,
	} {
		doc, _ := text.Parse(written)
		p, _ := path.Parse(s)
		put := p.Put(doc, api.Value{Kind: api.Text, S: "new"})
		if got, errno := text.Print(put); got != want || errno != api.OK {
			t.Errorf("P10: with a new value at %s: %s, %d, want %s", s, got, errno, want)
		}
		if got, _ := text.Print(doc); got != written {
			t.Errorf("P2: a new value at %s has written into %s", s, got)
		}
	}
}
