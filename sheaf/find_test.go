package sheaf_test

import (
	"slices"
	"strings"
	"testing"

	"sheaf/api"
)

// some are documents of many shapes.
func some() []string {
	return []string{`{"_id":1,"a":{"b":[1,2]}}`, `{"_id":2,"a":5}`, `{"_id":"three","a":"x","c":[1,{"d":2}]}`, `{"a":null,"_id":4,"c":[]}`, `{"_id":5,"a":true,"b.c":1,"c":[3,5,"y"]}`, `{"_id":"six","a":[5],"0":{"0":7}}`}
}

// findings are filters, and the numbers of the documents of some that they find.
func findings() map[string][]int {
	return map[string][]int{
		`{}`: {0, 1, 2, 3, 4, 5}, `{"z":1}`: {}, ` { "a" : 5 } `: {1}, `{"a.b.1":2}`: {0}, `{"a.b":{"$size":2}}`: {0}, `{"a":{"$ne":5}}`: {0, 2, 3, 4, 5}, `{"a":{"$gt":4}}`: {1}, `{"a":{"$gt":"x"}}`: {}, `{"a":{"$gte":"x"}}`: {2}, `{"b.c":1}`: {},
		`{"_id":{"$kind":4}}`: {2, 5}, `{"_id":{"$gt":1,"$lte":4}}`: {1, 3}, `{"c":{"$exists":true}}`: {2, 3, 4}, `{"c":{"$any":{"$gte":3}}}`: {4}, `{"c":{"$any":{"$kind":6}}}`: {2}, `{"_id":{"$in":[5,"six",1]}}`: {0, 4, 5}, `{"$or":[{"_id":5},{"_id":1}]}`: {0, 4}, `{"$nor":[{"_id":5},{"_id":1}]}`: {1, 2, 3, 5}, `{"$and":[{"c":[]},{"a":null}]}`: {3}, `{"0.0":{"$lt":8}}`: {5},
	}
}

// chosen are the documents of these numbers.
func chosen(docs []string, numbers []int) []string {
	var l []string
	for _, n := range numbers {
		l = append(l, docs[n])
	}
	return l
}

func TestFind(t *testing.T) {
	s := with(t, some()...)
	for filter, numbers := range findings() {
		want := chosen(some(), numbers)
		for range 2 {
			if got, errno := s.Find("x", filter); !slices.Equal(got, want) || errno != api.OK {
				t.Errorf("P9: Find(x, %s) = %q, %d, want %q", filter, got, errno, want)
			}
		}
	}
	has(t, s, "x", some()...)
}

func TestDelete(t *testing.T) {
	for filter, numbers := range findings() {
		s := with(t, some()...)
		is(t, "P7: Create(y)", s.Create("y"), api.OK)
		is(t, "P7: Insert(y)", s.Insert("y", some()[1]), api.OK)
		var left []string
		for i, doc := range some() {
			if !slices.Contains(numbers, i) {
				left = append(left, doc)
			}
		}
		if n, errno := s.Delete("x", filter); n != len(numbers) || errno != api.OK {
			t.Errorf("P9: Delete(x, %s) = %d, %d, want %d", filter, n, errno, len(numbers))
		}
		has(t, s, "x", left...)
		has(t, s, "y", some()[1])
		if n, errno := s.Delete("x", filter); n != 0 || errno != api.OK {
			t.Errorf("P9: Delete(x, %s) again = %d, %d", filter, n, errno)
		}
		for _, doc := range chosen(some(), numbers) {
			is(t, "P7: Insert(x, "+doc+") once more", s.Insert("x", doc), api.OK)
			left = append(left, doc)
		}
		has(t, s, "x", left...)
	}
}

// wrongFilters are filters that are refused, with the errors.
func wrongFilters() map[string]api.Errno {
	return map[string]api.Errno{
		strings.Repeat(" ", 3999) + "{}": api.ErrLong, "": api.ErrText, "{": api.ErrText, "{'a':1}": api.ErrText, `{"a":1} {}`: api.ErrText, `{"a":1.0}`: api.ErrText,
		`{"a":` + strings.Repeat("[", 12) + strings.Repeat("]", 12) + `}`: api.ErrDeep, `[` + strings.Repeat("[", 12) + strings.Repeat("]", 12) + `]`: api.ErrDeep,
		`{"a":1,"a":2}`: api.ErrTwice, `{"$and":[],"$and":[]}`: api.ErrTwice, `{"a":{"$eq":1,"$eq":1}}`: api.ErrTwice,
		"1": api.ErrFilter, "null": api.ErrFilter, "[]": api.ErrFilter, `[{}]`: api.ErrFilter, `{"":1}`: api.ErrFilter, `{"a.":1}`: api.ErrFilter, `{"$a":1}`: api.ErrFilter, `{"$eq":1}`: api.ErrFilter, `{"$and":[]}`: api.ErrFilter, `{"$or":{}}`: api.ErrFilter, `{"$nor":[1]}`: api.ErrFilter, `{"a":{"$foo":1}}`: api.ErrFilter, `{"a":{"$eq":1,"b":1}}`: api.ErrFilter, `{"a":{"$in":1}}`: api.ErrFilter, `{"a":{"$exists":1}}`: api.ErrFilter, `{"a":{"$size":-1}}`: api.ErrFilter, `{"a":{"$kind":7}}`: api.ErrFilter, `{"a":{"$not":{}}}`: api.ErrFilter, `{"a":{"$any":{"b":1}}}`: api.ErrFilter,
	}
}

func TestFindAndDeleteRefuseWhatIsNoFilter(t *testing.T) {
	s := with(t, some()...)
	for filter, want := range wrongFilters() {
		for _, name := range []string{"x", "no", "", "NO"} {
			if l, errno := s.Find(name, filter); l != nil || errno != want {
				t.Errorf("P9: Find(%s, %.300s) = %q, %d, want %d", name, filter, l, errno, want)
			}
			if n, errno := s.Delete(name, filter); n != 0 || errno != want {
				t.Errorf("P9: Delete(%s, %.300s) = %d, %d, want %d", name, filter, n, errno, want)
			}
		}
	}
	has(t, s, "x", some()...)
	hasNo(t, s, "no")
}

// TestWrongFiltersAreToldWithoutDocuments: that no document comes to it makes no filter right.
func TestWrongFiltersAreToldWithoutDocuments(t *testing.T) {
	s := with(t)
	for filter, want := range wrongFilters() {
		_, errno := s.Find("x", filter)
		is(t, "P9: Find(x, "+filter+")", errno, want)
		_, errno = s.Find("x", `{"a":{"$exists":false},"$or":[{},`+filter+`]}`)
		if errno == api.OK {
			t.Errorf("P9: Find(x, .. %s ..) = OK", filter)
		}
	}
}

func TestNorFindsWhatAFilterDoesNot(t *testing.T) {
	s := with(t, some()...)
	for filter := range findings() {
		found, _ := s.Find("x", filter)
		others, errno := s.Find("x", `{"$nor":[`+filter+`]}`)
		is(t, "P14: Find of $nor of "+filter, errno, api.OK)
		for _, doc := range some() {
			if slices.Contains(found, doc) == slices.Contains(others, doc) {
				t.Errorf("P14: %s, and $nor of it: %s", filter, doc)
			}
		}
	}
}

func TestWhatFindAnswersIsNewMemory(t *testing.T) {
	s := with(t, some()...)
	one, _ := s.Find("x", "{}")
	two, _ := s.Find("x", "{}")
	one = one[:cap(one)]
	for i := range one {
		one[i] = "own"
	}
	if !slices.Equal(two, some()) {
		t.Errorf("P2: two answers share a list: %q", two)
	}
	has(t, s, "x", some()...)
	s.Delete("x", "{}")
	if !slices.Equal(two, some()) {
		t.Errorf("P2: an answer has changed: %q", two)
	}
}

// TestGreatQueriesEnd: P1 where most is to be done: many documents, each with many values, and many tests on each.
func TestGreatQueriesEnd(t *testing.T) {
	s := with(t)
	for i := range api.MaxDocs {
		doc := `{"_id":` + string(rune('1'+i/10)) + string(rune('0'+i%10)) + `,"a":[` + strings.Repeat("0,", 105) + `0]}`
		is(t, "P7: Insert(x, "+doc+")", s.Insert("x", doc), api.OK)
	}
	filter := `{"a":{"$any":{"$in":[` + strings.Repeat("1,", 1980) + `1]}}}`
	if l, errno := s.Find("x", filter); l != nil || errno != api.OK {
		t.Errorf("P9: %q, %d", l, errno)
	}
	filter = `{"` + strings.Repeat("a.", 1980) + `a":{"$exists":false}}`
	if n, errno := s.Delete("x", filter); n != api.MaxDocs || errno != api.OK {
		t.Errorf("P9: %d, %d", n, errno)
	}
}

// TestNoQueryPanics: P1 for filters with one byte left out, put in or changed.
func TestNoQueryPanics(t *testing.T) {
	s := with(t, some()...)
	good := `{"a.0":{"$any":{"$gte":1,"$in":[null]}},"$or":[{"c":{}},{"_id":{"$kind":3}}]}`
	bytes := "\x00 \n\"$,.:[]{}01-\\aentu\x7f\xff"
	for at := range len(good) {
		all := []string{good[:at], good[at:], good[:at] + good[at+1:]}
		for i := range len(bytes) {
			all = append(all, good[:at]+bytes[i:i+1]+good[at:], good[:at]+bytes[i:i+1]+good[at+1:])
		}
		for _, filter := range all {
			if l, errno := s.Find("x", filter); errno != api.OK && l != nil {
				t.Errorf("P1: Find(x, %s) = %q, %d", filter, l, errno)
			}
			s.Insert("x", filter)
			s.Create(filter)
			s.Drop(filter)
		}
	}
	has(t, s, "x", some()...)
}
