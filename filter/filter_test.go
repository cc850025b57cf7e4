package filter_test

import (
	"testing"

	"sheaf/api"
	"sheaf/filter"
	"sheaf/text"
)

func value(t *testing.T, s string) api.Value {
	t.Helper()
	v, errno := text.Parse(s)
	if errno != api.OK {
		t.Fatalf("Parse(%s) = error %d", s, errno)
	}
	return v
}

// held tells of which of some documents a filter holds, as a 1 or a 0 each.
func held(t *testing.T, written string, docs ...string) string {
	t.Helper()
	f, errno := filter.Parse(value(t, written))
	if errno != api.OK {
		t.Fatalf("P8: %s = error %d", written, errno)
	}
	got := ""
	for _, doc := range docs {
		if f.Holds(value(t, doc)) {
			got += "1"
		} else {
			got += "0"
		}
	}
	return got
}

// holdsOf holds filters against the documents of which each is to hold.
func holdsOf(t *testing.T, docs []string, want map[string]string) {
	t.Helper()
	for written, want := range want {
		if got := held(t, written, docs...); got != want {
			t.Errorf("P8: %s holds of %s, want %s", written, got, want)
		}
	}
}

// kinds are documents with a value of each kind, and one without.
var kinds = []string{`{"a":null}`, `{"a":true}`, `{"a":5}`, `{"a":"5"}`, `{"a":[5]}`, `{"a":{"b":5}}`, `{"b":5}`}

func TestEntriesOfAFilter(t *testing.T) {
	docs := []string{`{"a":1,"b":1}`, `{"a":1,"b":2}`, `{"a":2,"b":1}`, `{"a":2,"b":2}`, `{}`}
	holdsOf(t, docs, map[string]string{
		`{}`: "11111", `{"a":1}`: "11000", `{"a":1,"b":2}`: "01000", `{"b":2,"a":1}`: "01000",
		`{"$and":[{"a":1}]}`: "11000", `{"$and":[{"a":1},{"b":1}]}`: "10000", `{"$and":[{},{}]}`: "11111",
		`{"$or":[{"a":1}]}`: "11000", `{"$or":[{"a":1},{"b":1}]}`: "11100", `{"$or":[{"a":3},{"b":3}]}`: "00000",
		`{"$nor":[{"a":1}]}`: "00111", `{"$nor":[{"a":1},{"b":1}]}`: "00011", `{"$nor":[{}]}`: "00000", `{"$nor":[{"a":1,"b":1}]}`: "01111",
		`{"$or":[{"a":1},{"a":2}],"b":2}`: "01010", `{"b":2,"$nor":[{"a":1}],"$or":[{"a":2}],"$and":[{}]}`: "00010",
		`{"$nor":[{"$nor":[{"$or":[{"$and":[{"a":1}]}]}]}]}`: "11000",
	})
}

func TestAValueAsksForAnEqualOne(t *testing.T) {
	holdsOf(t, kinds, map[string]string{
		`{"a":null}`: "1000000", `{"a":true}`: "0100000", `{"a":false}`: "0000000", `{"a":5}`: "0010000", `{"a":"5"}`: "0001000", `{"a":[5]}`: "0000100", `{"a":[]}`: "0000000", `{"a":{"b":5}}`: "0000010", `{"a":{}}`: "0000000", `{"a.b":5}`: "0000010", `{"a.0":5}`: "0000100", `{"c":null}`: "0000000",
	})
	docs := []string{`{"a":{}}`, `{"a":{"x":1,"y":2}}`, `{"a":{"y":2,"x":1}}`, `{"a":{"x":1,"$eq":5}}`, `{"a":5}`, `{"a":{"":{"$x":1}}}`}
	holdsOf(t, docs, map[string]string{
		`{"a":{}}`: "100000", `{"a":{"x":1,"y":2}}`: "010000", `{"a":{"y":2,"x":1}}`: "001000", `{"a":{"x":1,"$eq":5}}`: "000100", `{"a":{"$eq":{"x":1,"$eq":5}}}`: "000100", `{"a":{"":{"$x":1}}}`: "000001",
	})
}

func TestPathsOfFilters(t *testing.T) {
	docs := []string{`{"a":{"$b":1}}`, `{"a":{"b":[{"c":1}]}}`, `{"a.$b":1}`, `{"a":{"":1}}`, `{" ":1}`}
	holdsOf(t, docs, map[string]string{`{"a.$b":1}`: "10000", `{"a.b.0.c":1}`: "01000", `{"a.b.00.c":1}`: "00000", `{" ":1}`: "00001", `{"a.$":{"$exists":true}}`: "00000"})
}

func TestEqualAndNot(t *testing.T) {
	holdsOf(t, kinds, map[string]string{
		`{"a":{"$eq":null}}`: "1000000", `{"a":{"$eq":5}}`: "0010000", `{"a":{"$eq":[5]}}`: "0000100", `{"a":{"$eq":{"b":5}}}`: "0000010", `{"a":{"$eq":{"$eq":5}}}`: "0000000",
		`{"a":{"$ne":null}}`: "0111111", `{"a":{"$ne":5}}`: "1101111", `{"a":{"$ne":{"b":5}}}`: "1111101", `{"a":{"$ne":{"$eq":5}}}`: "1111111", `{"c":{"$ne":null}}`: "1111111", `{"c":{"$eq":null}}`: "0000000",
	})
}

func TestGreaterAndLess(t *testing.T) {
	numbers := []string{`{"a":-9223372036854775808}`, `{"a":-1}`, `{"a":0}`, `{"a":1}`, `{"a":9223372036854775807}`, `{"a":"0"}`, `{"a":null}`, `{"a":[0]}`, `{}`}
	holdsOf(t, numbers, map[string]string{
		`{"a":{"$gt":0}}`: "000110000", `{"a":{"$gte":0}}`: "001110000", `{"a":{"$lt":0}}`: "110000000", `{"a":{"$lte":0}}`: "111000000",
		`{"a":{"$gt":9223372036854775807}}`: "000000000", `{"a":{"$gte":9223372036854775807}}`: "000010000", `{"a":{"$lt":-9223372036854775808}}`: "000000000", `{"a":{"$lte":-9223372036854775808}}`: "100000000",
		`{"a":{"$gte":0,"$lt":1}}`: "001000000", `{"a":{"$lt":0,"$gt":0}}`: "000000000",
	})
	holdsOf(t, kinds, map[string]string{
		`{"a":{"$gt":null}}`: "0000000", `{"a":{"$gte":null}}`: "1000000", `{"a":{"$lt":null}}`: "0000000", `{"a":{"$lte":null}}`: "1000000", `{"c":{"$lte":null}}`: "0000000", `{"c":{"$gte":null}}`: "0000000",
		`{"a":{"$gt":false}}`: "0100000", `{"a":{"$lt":true}}`: "0000000", `{"a":{"$lte":true}}`: "0100000",
		`{"a":{"$gt":"4"}}`: "0001000", `{"a":{"$gt":"10"}}`: "0001000", `{"a":{"$lt":"50"}}`: "0001000", `{"a":{"$gte":"50"}}`: "0000000",
		`{"a":{"$gt":[4,9]}}`: "0000100", `{"a":{"$gt":[]}}`: "0000100", `{"a":{"$lt":[5,0]}}`: "0000100", `{"a":{"$gte":[5]}}`: "0000100", `{"a":{"$gt":[5]}}`: "0000000",
		`{"a":{"$gt":{}}}`: "0000010", `{"a":{"$gt":{"b":4}}}`: "0000010", `{"a":{"$lt":{"c":0}}}`: "0000010", `{"a":{"$lte":{"b":5}}}`: "0000010", `{"a":{"$lt":{"b":5}}}`: "0000000",
	})
}

func TestInLists(t *testing.T) {
	holdsOf(t, kinds, map[string]string{
		`{"a":{"$in":[]}}`: "0000000", `{"a":{"$nin":[]}}`: "1111111", `{"a":{"$in":[5]}}`: "0010000", `{"a":{"$nin":[5]}}`: "1101111", `{"a":{"$in":[null,"5"]}}`: "1001000", `{"a":{"$nin":[null,"5"]}}`: "0110111", `{"a":{"$in":[[5],{"b":5}]}}`: "0000110", `{"a":{"$in":[[[5]],{"$eq":5}]}}`: "0000000", `{"c":{"$in":[null]}}`: "0000000", `{"c":{"$nin":[null]}}`: "1111111",
	})
}

func TestExistsSizeAndKind(t *testing.T) {
	holdsOf(t, kinds, map[string]string{
		`{"a":{"$exists":true}}`: "1111110", `{"a":{"$exists":false}}`: "0000001", `{"a.b":{"$exists":true}}`: "0000010",
		`{"a":{"$kind":1}}`: "1000000", `{"a":{"$kind":2}}`: "0100000", `{"a":{"$kind":3}}`: "0010000", `{"a":{"$kind":4}}`: "0001000", `{"a":{"$kind":5}}`: "0000100", `{"a":{"$kind":6}}`: "0000010",
		`{"a":{"$size":1}}`: "0000100", `{"a":{"$size":0}}`: "0000000", `{"a":{"$size":9223372036854775807}}`: "0000000",
	})
	holdsOf(t, []string{`{"a":[]}`, `{"a":[[]]}`, `{"a":[1,2]}`, `{"a":{}}`, `{"a":""}`, `{}`}, map[string]string{
		`{"a":{"$size":0}}`: "100000", `{"a":{"$size":1}}`: "010000", `{"a":{"$size":2}}`: "001000", `{"a":{"$size":4294967296}}`: "000000",
	})
}

func TestNotAndAny(t *testing.T) {
	docs := []string{`{"a":[1,5,9]}`, `{"a":[1,9]}`, `{"a":[]}`, `{"a":5}`, `{"a":[[5],[null]]}`, `{"a":{"0":5}}`, `{}`}
	holdsOf(t, docs, map[string]string{
		`{"a":{"$any":{"$eq":5}}}`: "1000000", `{"a":{"$any":{"$gt":1,"$lt":9}}}`: "1000000", `{"a":{"$any":{"$gt":1},"$size":2}}`: "0100000", `{"a":{"$any":{"$ne":1}}}`: "1100100", `{"a":{"$any":{"$exists":true}}}`: "1100100", `{"a":{"$any":{"$exists":false}}}`: "0000000", `{"a":{"$any":{"$not":{"$eq":1}}}}`: "1100100",
		`{"a":{"$any":{"$any":{"$eq":5}}}}`: "0000100", `{"a":{"$any":{"$any":{"$eq":null}}}}`: "0000100", `{"a":{"$any":{"$kind":5,"$size":1}}}`: "0000100", `{"a":{"$any":{"$in":[9,5]}}}`: "1100000", `{"a":{"$any":{"$nin":[1,9]}}}`: "1000100",
		`{"a":{"$not":{"$eq":5}}}`: "1110111", `{"a":{"$not":{"$kind":5}}}`: "0001011", `{"a":{"$not":{"$kind":5,"$size":0}}}`: "1101111", `{"a":{"$not":{"$not":{"$eq":5}}}}`: "0001000", `{"a":{"$not":{"$any":{"$eq":5}}}}`: "0111111", `{"a":{"$not":{"$exists":true}}}`: "0000001",
	})
}

func TestAllTestsHaveToHold(t *testing.T) {
	holdsOf(t, kinds, map[string]string{
		`{"a":{"$exists":true,"$ne":5,"$nin":["5"],"$not":{"$kind":5}}}`: "1100010", `{"a":{"$kind":3,"$gt":4,"$lt":6,"$eq":5}}`: "0010000", `{"a":{"$eq":5,"$kind":4}}`: "0000000",
	})
}

// wrongTests are no tests, whatever they stand behind.
var wrongTests = []string{
	`{"$foo":1}`, `{"$":1}`, `{"$EQ":1}`, `{"$eq ":1}`, `{"$and":[{}]}`, `{"$or":[{}]}`, `{"$nor":[{}]}`, `{"$eq":1,"b":1}`, `{"$eq":1,"":1}`, `{"$eq":1,"$foo":1}`, `{"$eq":1,"eq":1}`,
	`{"$in":1}`, `{"$in":null}`, `{"$in":"a"}`, `{"$in":{}}`, `{"$nin":1}`, `{"$nin":true}`, `{"$nin":{"a":1}}`,
	`{"$exists":1}`, `{"$exists":0}`, `{"$exists":null}`, `{"$exists":"true"}`, `{"$exists":[true]}`, `{"$exists":{}}`,
	`{"$size":-1}`, `{"$size":-9223372036854775808}`, `{"$size":"1"}`, `{"$size":null}`, `{"$size":true}`, `{"$size":[1]}`, `{"$size":{}}`,
	`{"$kind":0}`, `{"$kind":7}`, `{"$kind":-1}`, `{"$kind":4294967297}`, `{"$kind":"1"}`, `{"$kind":true}`, `{"$kind":null}`, `{"$kind":[1]}`, `{"$kind":{}}`,
	`{"$not":5}`, `{"$not":{}}`, `{"$not":[]}`, `{"$not":null}`, `{"$not":{"b":1}}`, `{"$not":{"$in":1}}`, `{"$not":{"$eq":1,"b":1}}`, `{"$not":{"$not":{}}}`, `{"$not":[{"$eq":1}]}`, `{"$not":"$eq"}`,
	`{"$any":5}`, `{"$any":{}}`, `{"$any":[]}`, `{"$any":true}`, `{"$any":{"b":1}}`, `{"$any":{"$size":-1}}`, `{"$any":{"$eq":1,"$kind":9}}`, `{"$any":{"$any":{}}}`, `{"$any":[{"$eq":1}]}`,
}

// wrongFilters are values that are no filters.
func wrongFilters() []string {
	all := []string{
		`null`, `true`, `1`, `"a"`, `""`, `[]`, `[{}]`,
		`{"":1}`, `{".":1}`, `{"a.":1}`, `{".a":1}`, `{"a..b":1}`, `{"a":1,"":1}`, `{"a":1,"b.":2}`,
		`{"$":1}`, `{"$a":1}`, `{"$a.b":1}`, `{"$.a":1}`, `{"$eq":1}`, `{"$not":{"a":1}}`, `{"$any":{"$eq":1}}`, `{"$AND":[{}]}`, `{"$and ":[{}]}`, `{"$and.a":[{}]}`, `{"a":1,"$b":1}`, `{"$match":{}}`,
	}
	for _, operator := range []string{`{"$and":`, `{"$or":`, `{"$nor":`, `{"a":1,"$or":`, `{"$and":[{}],"$nor":`} {
		for _, v := range []string{`[]`, `{}`, `null`, `1`, `true`, `"a"`, `{"a":1}`, `[1]`, `[null]`, `["a"]`, `[[]]`, `[[{}]]`, `{"a":{}}`, `[{},1]`, `[{"$a":1}]`, `[{},{"":1}]`, `[{"$or":[]}]`, `[{"a":{"$foo":1}}]`} {
			all = append(all, operator+v+`}`)
		}
	}
	for _, tests := range wrongTests {
		all = append(all, `{"a":`+tests+`}`, `{"b":1,"a.0":`+tests+`}`, `{"$or":[{"b":1},{"a":`+tests+`}]}`, `{"a":{"$exists":true,"$not":`+tests+`}}`)
	}
	return all
}

func TestWhatIsNoFilter(t *testing.T) {
	for _, s := range wrongFilters() {
		if f, errno := filter.Parse(value(t, s)); f != nil || errno != api.ErrFilter {
			t.Errorf("P8: %s = %v, %d", s, f, errno)
		}
	}
}

// TestAFilterLeavesItsValueAlone: P2.
func TestAFilterLeavesItsValueAlone(t *testing.T) {
	s := `{"a":{"$not":{"$in":[3,1,2]}},"$or":[{"b":{"$any":{"$gt":1}}},{"c":[2,1]}]}`
	v, doc := value(t, s), value(t, `{"a":[1,2],"b":[2],"c":[2,1]}`)
	f, errno := filter.Parse(v)
	if errno != api.OK || !f.Holds(doc) {
		t.Fatalf("P8: %s = %d", s, errno)
	}
	if got, _ := text.Print(v); got != s {
		t.Errorf("P2: %s", got)
	}
	if got, _ := text.Print(doc); got != `{"a":[1,2],"b":[2],"c":[2,1]}` {
		t.Errorf("P2: %s", got)
	}
}
