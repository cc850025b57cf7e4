package sheaf_test

import (
	"slices"
	"strconv"
	"strings"
	"testing"

	"sheaf/api"
	"sheaf/sheaf"
)

// is holds an answer against the one that is due.
func is(t *testing.T, what string, got, want api.Errno) {
	t.Helper()
	if got != want {
		t.Errorf("%.300s = %d, want %d", what, got, want)
	}
}

// with is a store with a collection x of these documents.
func with(t *testing.T, docs ...string) *sheaf.Store {
	t.Helper()
	s := sheaf.New()
	is(t, "P7: Create(x)", s.Create("x"), api.OK)
	for _, doc := range docs {
		is(t, "P7: Insert(x, "+doc+")", s.Insert("x", doc), api.OK)
	}
	return s
}

// has tells whether a collection has just these documents, in this order.
func has(t *testing.T, s *sheaf.Store, name string, want ...string) {
	t.Helper()
	if got, errno := s.Find(name, "{}"); !slices.Equal(got, want) || errno != api.OK {
		t.Errorf("collection %s = %q, %d, want %q", name, got, errno, want)
	}
}

// hasNo tells that there is no such collection, by all calls that ask for it.
func hasNo(t *testing.T, s *sheaf.Store, name string) {
	t.Helper()
	is(t, "P7: Drop("+name+")", s.Drop(name), api.ErrNone)
	is(t, "P7: Insert("+name+")", s.Insert(name, `{"_id":1}`), api.ErrNone)
	if l, errno := s.Find(name, "{}"); len(l) != 0 || errno != api.ErrNone {
		t.Errorf("P9: Find(%s) = %q, %d", name, l, errno)
	}
	if n, errno := s.Delete(name, "{}"); n != 0 || errno != api.ErrNone {
		t.Errorf("P9: Delete(%s) = %d, %d", name, n, errno)
	}
}

func TestANewStoreHasNoCollections(t *testing.T) {
	s := sheaf.New()
	for _, name := range []string{"", "x", "a", "X", "abcdefghijkl", "abcdefghijklm"} {
		hasNo(t, s, name)
	}
}

func TestNamesOfCollections(t *testing.T) {
	s := sheaf.New()
	for _, name := range []string{"", " ", "A", "Z", "aB", "a1", "1", "a b", " a", "a\n", "a\x00", "a-b", "a.b", "$a", "_", "`", "{", "é", "aé", "\xff", "ａ", "abcdefghijklm", strings.Repeat("a", 5000)} {
		is(t, "P7: Create("+name+")", s.Create(name), api.ErrNone)
		hasNo(t, s, name)
	}
	for _, name := range []string{"a", "z", "az", "abcdefghijkl", "zzzzzzzzzzzz"} {
		is(t, "P7: Create("+name+")", s.Create(name), api.OK)
		has(t, s, name)
	}
}

func TestCreate(t *testing.T) {
	s := with(t, `{"_id":1}`)
	is(t, "P7: Create(x) again", s.Create("x"), api.ErrThere)
	has(t, s, "x", `{"_id":1}`)
	for _, name := range []string{"a", "b", "c", "d", "e"} {
		is(t, "P7: Create("+name+")", s.Create(name), api.OK)
	}
	is(t, "P7: Create(f), the seventh", s.Create("f"), api.ErrFull)
	is(t, "P7: Create(a), where all is full", s.Create("a"), api.ErrThere)
	is(t, "P7: Create(A), where all is full", s.Create("A"), api.ErrNone)
	hasNo(t, s, "f")
	has(t, s, "x", `{"_id":1}`)
}

func TestDrop(t *testing.T) {
	s := with(t, `{"_id":1}`, `{"_id":2}`)
	is(t, "P7: Create(y)", s.Create("y"), api.OK)
	is(t, "P7: Insert(y)", s.Insert("y", `{"_id":3}`), api.OK)
	is(t, "P7: Drop(x)", s.Drop("x"), api.OK)
	hasNo(t, s, "x")
	has(t, s, "y", `{"_id":3}`)
	is(t, "P7: Create(x) once more", s.Create("x"), api.OK)
	has(t, s, "x")
	for _, name := range []string{"a", "b", "c", "d"} {
		is(t, "P7: Create("+name+")", s.Create(name), api.OK)
	}
	is(t, "P7: Create(e), the seventh", s.Create("e"), api.ErrFull)
	is(t, "P7: Drop(c)", s.Drop("c"), api.OK)
	is(t, "P7: Create(e), the sixth", s.Create("e"), api.OK)
}

// big is a document of so many bytes (P5).
func big(bytes int) string {
	return `{"_id":1,"a":"` + strings.Repeat("x", bytes-27) + `"}`
}

// wrongDocs are documents that Insert refuses whatever is in the collection, with the errors.
func wrongDocs() map[string]api.Errno {
	return map[string]api.Errno{
		strings.Repeat(" ", 3992) + `{"_id":1}`: api.ErrLong, strings.Repeat("[", 5000): api.ErrLong,
		"": api.ErrText, "{": api.ErrText, `{"_id":1,}`: api.ErrText, `{"_id":1.5}`: api.ErrText, `{"_id":"\xff"}`: api.ErrText,
		`{"_id":1,"a":` + strings.Repeat("[", 12) + strings.Repeat("]", 12) + `}`: api.ErrDeep, strings.Repeat("[", 13) + strings.Repeat("]", 13): api.ErrDeep,
		`{"_id":1,"_id":1}`: api.ErrTwice, `{"_id":1,"a":{"b":1,"b":2}}`: api.ErrTwice, `[{"b":1,"b":2}]`: api.ErrTwice,
		"null": api.ErrDoc, "true": api.ErrDoc, "1": api.ErrDoc, `"_id"`: api.ErrDoc, "[]": api.ErrDoc, `[{"_id":1}]`: api.ErrDoc, `["_id",1]`: api.ErrDoc,
		"{}": api.ErrDoc, `{"id":1}`: api.ErrDoc, `{"_ID":1}`: api.ErrDoc, `{"a":{"_id":1}}`: api.ErrDoc, `{"_id ":1}`: api.ErrDoc,
		`{"_id":null}`: api.ErrDoc, `{"_id":true}`: api.ErrDoc, `{"_id":false}`: api.ErrDoc, `{"_id":[1]}`: api.ErrDoc, `{"_id":{}}`: api.ErrDoc, `{"_id":{"_id":1}}`: api.ErrDoc, `{"a":1,"_id":[]}`: api.ErrDoc,
		`{"a":"` + strings.Repeat("x", 1000) + `"}`: api.ErrDoc, `{"_id":null,"a":"` + strings.Repeat("x", 1000) + `"}`: api.ErrDoc, `"` + strings.Repeat("x", 1000) + `"`: api.ErrDoc,
		big(1001): api.ErrBig, big(3000): api.ErrBig, `{"_id":"` + strings.Repeat("x", 986) + `"}`: api.ErrBig, `{"_id":1,"a":[` + strings.Repeat("0,", 108) + `0]}`: api.ErrBig,
	}
}

func TestInsertRefusesWhatIsNoDocument(t *testing.T) {
	s := with(t, `{"_id":1}`)
	for doc, want := range wrongDocs() {
		is(t, "P7: Insert(x, "+doc+")", s.Insert("x", doc), want)
		is(t, "P7: Insert(no, "+doc+")", s.Insert("no", doc), want)
		is(t, "P7: Insert(, "+doc+")", s.Insert("", doc), want)
	}
	has(t, s, "x", `{"_id":1}`)
}

func TestInsertTakesDocumentsUpToTheLimits(t *testing.T) {
	for doc, printed := range map[string]string{
		big(1000): big(1000), `{"_id":"` + strings.Repeat("x", 985) + `"}`: `{"_id":"` + strings.Repeat("x", 985) + `"}`,
		`{"_id":1,"a":` + strings.Repeat("[", 11) + strings.Repeat("]", 11) + `}`: `{"_id":1,"a":` + strings.Repeat("[", 11) + strings.Repeat("]", 11) + `}`,
		strings.Repeat(" ", 3991) + `{"_id":1}`:                                   `{"_id":1}`,
		`{"_id":""}`:                                                              `{"_id":""}`, `{"_id":-9223372036854775808}`: `{"_id":-9223372036854775808}`, `{"b":[1,{"c":null}],"_id":"\u00e9","":true}`: `{"b":[1,{"c":null}],"_id":"é","":true}`,
		` { "_id" : 1 , "a" : "\u000a\/" } `: `{"_id":1,"a":"\u000a/"}`,
	} {
		s := with(t)
		is(t, "P7: Insert(x, "+doc+")", s.Insert("x", doc), api.OK)
		has(t, s, "x", printed)
	}
}

func TestNoTwoDocumentsHaveEqualIDs(t *testing.T) {
	first := []string{`{"_id":1,"a":1}`, `{"_id":"1"}`, `{"a":{"_id":7},"_id":2}`, `{"_id":"é"}`, `{"_id":-1}`, `{"_id":""}`}
	s := with(t, first...)
	for _, doc := range []string{`{"_id":1}`, `{"b":0,"_id":1}`, ` {"_id" :1,"a":1}`, `{"_id":"\u0031"}`, `{"_id":2,"a":[]}`, `{"_id":"\u00e9"}`, `{"_id":"\u00E9"}`, `{"_id":-1}`, `{"_id":""}`} {
		is(t, "P7: Insert(x, "+doc+")", s.Insert("x", doc), api.ErrThere)
	}
	has(t, s, "x", first...)
	for _, doc := range []string{`{"_id":7}`, `{"_id":"01"}`, `{"_id":"2"}`, `{"_id":"e"}`, `{"_id":"-1"}`, `{"_id":0}`, `{"_id":"1 "}`} {
		is(t, "P7: Insert(x, "+doc+")", s.Insert("x", doc), api.OK)
	}
	is(t, "P7: Create(y)", s.Create("y"), api.OK)
	is(t, "P7: Insert(y), an _id of another collection", s.Insert("y", `{"_id":1}`), api.OK)
}

func TestACollectionHasSixtyDocuments(t *testing.T) {
	s := with(t)
	var all []string
	for i := range 60 {
		doc := `{"_id":` + strconv.Itoa(60-i) + `}`
		all = append(all, doc)
		is(t, "P7: Insert(x, "+doc+")", s.Insert("x", doc), api.OK)
	}
	is(t, "P7: Insert, the 61st", s.Insert("x", `{"_id":61}`), api.ErrFull)
	is(t, "P7: Insert, the 61st, of an _id that is there", s.Insert("x", `{"_id":60}`), api.ErrThere)
	is(t, "P7: Insert, the 61st, too big", s.Insert("x", big(1001)), api.ErrBig)
	has(t, s, "x", all...)
	is(t, "P7: Create(y)", s.Create("y"), api.OK)
	is(t, "P7: Insert(y)", s.Insert("y", `{"_id":61}`), api.OK)
	if n, errno := s.Delete("x", `{"_id":30}`); n != 1 || errno != api.OK {
		t.Errorf("P9: Delete = %d, %d", n, errno)
	}
	is(t, "P7: Insert, the 60th", s.Insert("x", `{"_id":61}`), api.OK)
	is(t, "P7: Insert, the 61st", s.Insert("x", `{"_id":62}`), api.ErrFull)
	has(t, s, "x", append(slices.Concat(all[:30], all[31:]), `{"_id":61}`)...)
}

func TestStoresAreApart(t *testing.T) {
	a, b := with(t, `{"_id":1}`), with(t, `{"_id":2}`)
	is(t, "P2: Create(y)", a.Create("y"), api.OK)
	hasNo(t, b, "y")
	is(t, "P2: Drop(x)", a.Drop("x"), api.OK)
	has(t, b, "x", `{"_id":2}`)
}
