package sheaf_test

import (
	"math/rand"
	"slices"
	"strconv"
	"strings"
	"testing"

	"sheaf/api"
	"sheaf/sheaf"
	"sheaf/text"
)

// answer is all that Run tells.
type answer struct {
	docs       []string
	stage, doc int
	errno      api.Errno
}

func ran(s *sheaf.Store, name, pipeline string) answer {
	docs, stage, doc, errno := s.Run(name, pipeline)
	return answer{docs, stage, doc, errno}
}

func (a answer) is(b answer) bool {
	return slices.Equal(a.docs, b.docs) && a.stage == b.stage && a.doc == b.doc && a.errno == b.errno
}

// runs: these documents come out, at each of two times.
func runs(t *testing.T, s *sheaf.Store, pipeline string, want ...string) {
	t.Helper()
	for range 2 {
		if got := ran(s, "x", pipeline); !got.is(answer{docs: want}) {
			t.Errorf("P10: Run(x, %s) = %v, want %q", pipeline, got, want)
		}
	}
}

// failed: this is the error, and where; no document comes with it.
func failed(t *testing.T, s *sheaf.Store, pipeline string, stage, doc int, errno api.Errno) {
	t.Helper()
	if got := ran(s, "x", pipeline); !got.is(answer{nil, stage, doc, errno}) {
		t.Errorf("P13: Run(x, %.300s) = %v, want %d, %d, %d", pipeline, got, stage, doc, errno)
	}
}

func TestRunTheExamples(t *testing.T) {
	s := with(t, `{"_id":1,"a":{"b":[1,2]}}`, `{"_id":2,"a":5}`)
	failed(t, s, `[{"$unwind":"a.b"}]`, 0, 1, api.ErrType)
	runs(t, s, `[{"$match":{"_id":1}},{"$unwind":"a.b"},{"$project":{"x":{"$add":["$a.b",1]}}}]`, `{"x":2}`, `{"x":3}`)
	runs(t, s, `[{"$group":{"by":null,"make":{"n":{"$count":null}}}}]`, `{"_id":null,"n":2}`)
}

func TestRunTellsWhatIsWrongInOrder(t *testing.T) {
	s := with(t, some()...)
	for pipeline, want := range map[string]api.Errno{
		strings.Repeat(" ", 3999) + "[]": api.ErrLong, strings.Repeat("[", 4001): api.ErrLong, `[{"$foo":1}]` + strings.Repeat(" ", 4000): api.ErrLong,
		"": api.ErrText, "[": api.ErrText, "[{}": api.ErrText, `[{"$skip":1.5}]`: api.ErrText, `[] []`: api.ErrText, `[{"$foo":01}]`: api.ErrText,
		strings.Repeat("[", 13) + strings.Repeat("]", 13): api.ErrDeep, `[{"$project":{"a":{"$lit":` + strings.Repeat("[", 9) + strings.Repeat("]", 9) + `}}}]`: api.ErrDeep,
		`[{"$skip":1,"$skip":2}]`: api.ErrTwice, `[{"$project":{"a":1,"a":1}}]`: api.ErrTwice, `{"a":1,"a":1}`: api.ErrTwice,
		"{}": api.ErrPipe, "null": api.ErrPipe, "1": api.ErrPipe, `"[]"`: api.ErrPipe, "[1]": api.ErrPipe, "[{}]": api.ErrPipe, `[{"$foo":1}]`: api.ErrPipe, `[{"$match":{"$x":1}}]`: api.ErrPipe, `[{"$project":{"a":{"$if":[{"$x":1},1,2]}}}]`: api.ErrPipe, `[{"$unwind":"x"},{"$skip":-1}]`: api.ErrPipe, `[{"$group":{"by":1}}]`: api.ErrPipe,
		"[" + strings.Repeat(`{"$skip":0},`, 8) + `{"$skip":0}]`: api.ErrPipe,
	} {
		for _, name := range []string{"x", "no", "", "NO"} {
			if got := ran(s, name, pipeline); !got.is(answer{errno: want}) {
				t.Errorf("P10: Run(%s, %.300s) = %v, want %d", name, pipeline, got, want)
			}
		}
	}
	for _, pipeline := range []string{"[]", `[{"$limit":1}]`, `[{"$unwind":"x"}]`, strings.Repeat(" ", 3998) + "[]"} {
		for _, name := range []string{"no", "", "NO", "xx"} {
			if got := ran(s, name, pipeline); !got.is(answer{errno: api.ErrNone}) {
				t.Errorf("P10: Run(%s, %s) = %v", name, pipeline, got)
			}
		}
	}
	has(t, s, "x", some()...)
}

func TestRunTakesTheDocumentsOfItsCollection(t *testing.T) {
	s := with(t)
	const pipeline = `[{"$sort":{"_id":-1}},{"$project":{"v":"$_id"}}]`
	runs(t, s, pipeline)
	is(t, "P7: Create(y)", s.Create("y"), api.OK)
	is(t, "P7: Insert(y)", s.Insert("y", `{"_id":9}`), api.OK)
	for _, doc := range []string{`{"_id":1}`, `{"_id":3}`, `{"_id":2}`} {
		is(t, "P7: Insert(x)", s.Insert("x", doc), api.OK)
	}
	runs(t, s, pipeline, `{"v":3}`, `{"v":2}`, `{"v":1}`)
	if n, errno := s.Delete("x", `{"_id":3}`); n != 1 || errno != api.OK {
		t.Errorf("P9: Delete = %d, %d", n, errno)
	}
	runs(t, s, pipeline, `{"v":2}`, `{"v":1}`)
	is(t, "P7: Drop(x)", s.Drop("x"), api.OK)
	if got := ran(s, "x", pipeline); !got.is(answer{errno: api.ErrNone}) {
		t.Errorf("P10: Run of a collection that was dropped = %v", got)
	}
	if got := ran(s, "y", pipeline); !got.is(answer{docs: []string{`{"v":9}`}}) {
		t.Errorf("P10: Run(y) = %v", got)
	}
}

// TestRunChangesNothing: whatever it does, or fails at, the documents lie as they lay.
func TestRunChangesNothing(t *testing.T) {
	docs := []string{`{"_id":3,"a":[1,[2,3]],"b":{"c":[4,5]}}`, `{"_id":1,"a":[],"b":{"c":[6]}}`, `{"_id":2,"a":[7,8,9],"b":{"c":[]}}`}
	for _, pipeline := range []string{
		`[]`, `[{"$sort":{"_id":1}}]`, `[{"$skip":1},{"$sort":{"_id":-1}}]`, `[{"$limit":2},{"$sort":{"_id":1}},{"$skip":1}]`, `[{"$unwind":"a"}]`, `[{"$unwind":"b.c"},{"$sort":{"b.c":-1}}]`, `[{"$match":{"_id":3}},{"$unwind":"a.1"}]`, `[{"$project":{"l":"$a","m":"$b"}},{"$unwind":"l"},{"$unwind":"m.c"}]`,
		`[{"$group":{"by":null,"make":{"l":{"$list":"$a"},"f":{"$first":"$b"},"m":{"$max":"$a"}}}},{"$unwind":"l"}]`, `[{"$unwind":"a"},{"$unwind":"b"}]`, `[{"$unwind":"a.0"}]`, `[{"$group":{"by":1,"make":{"s":{"$sum":"$a"}}}}]`,
	} {
		s := with(t, docs...)
		first := ran(s, "x", pipeline)
		has(t, s, "x", docs...)
		for i := range first.docs {
			first.docs[i] = "own"
		}
		first.docs = append(first.docs, "own")
		has(t, s, "x", docs...)
		if again, other := ran(s, "x", pipeline), ran(with(t, docs...), "x", pipeline); !again.is(other) {
			t.Errorf("P2: Run(x, %s) = %v, at first %v", pipeline, again, other)
		}
	}
}

func TestRunTellsThePlaceOfTheFirstError(t *testing.T) {
	s := with(t, `{"_id":1,"a":[1],"n":1}`, `{"_id":2,"a":[1,2],"n":"x"}`, `{"_id":3,"a":3,"n":9223372036854775807}`)
	failed(t, s, `[{"$unwind":"a"},{"$project":{"v":{"$add":["$n",1]}}}]`, 0, 2, api.ErrType)
	failed(t, s, `[{"$limit":2},{"$unwind":"a"},{"$project":{"v":{"$add":["$n",1]}}}]`, 2, 1, api.ErrType)
	failed(t, s, `[{"$match":{"n":{"$kind":3}}},{"$project":{"v":{"$add":["$n",1]}}},{"$unwind":"v"}]`, 1, 1, api.ErrOver)
	failed(t, s, `[{"$limit":1},{"$project":{"v":{"$add":["$n",1]}}},{"$unwind":"v"}]`, 2, 0, api.ErrType)
	failed(t, s, `[{"$sort":{"_id":-1}},{"$project":{"v":{"$add":["$n",1]}}}]`, 1, 0, api.ErrOver)
	runs(t, s, `[{"$limit":1},{"$project":{"v":{"$add":["$n",1]}}},{"$match":{"v":3}},{"$unwind":"v"}]`)
}

// TestRunOnAsMuchAsThereMayBe has 60 documents of 1000 bytes.
func TestRunOnAsMuchAsThereMayBe(t *testing.T) {
	s := with(t)
	var all []string
	for i := range 60 {
		// The bytes: 5, and 2, 3, 9 of _id, 2, 1, 5, 3 and 3 times 9 of c, 2, 1, 5 of a.
		all = append(all, `{"_id":`+strconv.Itoa(i)+`,"c":[1,2,3],"a":"`+strings.Repeat("x", 1000-5-14-35-8)+`"}`)
		is(t, "P7: Insert(x)", s.Insert("x", all[i]), api.OK)
	}
	runs(t, s, "[]", all...)
	got := ran(s, "x", `[{"$unwind":"c"},{"$sort":{"c":-1,"_id":-1}},{"$limit":1},{"$project":{"i":"$_id","c":"$c"}}]`)
	if !got.is(answer{docs: []string{`{"i":59,"c":3}`}}) {
		t.Errorf("P10: %v", got)
	}
	wide := `{"$join":[` + strings.Repeat(`"$a",`, 700) + `"$a"]}`
	failed(t, s, `[{"$unwind":"c"},{"$project":{"v":`+wide+`}}]`, 1, 0, api.ErrBig)
	failed(t, s, `[{"$unwind":"c"},{"$group":{"by":`+wide+`,"make":{"c":{"$count":null}}}}]`, 1, 0, api.ErrBig)
	failed(t, s, `[{"$unwind":"c"},{"$group":{"by":"$c","make":{"l":{"$list":`+wide+`}}}}]`, 1, 0, api.ErrBig)
	failed(t, s, `[{"$unwind":"c"},{"$project":{"_id":"$_id","c":{"$lit":[1,2]}}},{"$unwind":"c"}]`, 2, 100, api.ErrFull)
	failed(t, s, `[{"$project":{"_id":"$_id","a":"$a","c":"$c","d":null}}]`, 0, 0, api.ErrBig)
	runs(t, s, `[{"$project":{"_id":"$_id","c":"$c","a":"$a"}}]`, all...)
}

// TestPipelinesOneBehindTheOther lays what comes out of one into a collection, and takes it from there.
func TestPipelinesOneBehindTheOther(t *testing.T) {
	s := with(t, `{"_id":1,"a":[3,4],"b":"x"}`, `{"_id":2,"a":[5],"b":"y"}`, `{"_id":3,"a":[],"b":"x"}`, `{"_id":4,"a":[6,7,8],"b":"z"}`)
	for _, first := range []string{`{"$match":{"b":"x"}}`, `{"$sort":{"b":-1}}`, `{"$project":{"_id":{"$mul":["$_id",-1]},"a":"$a","b":{"$join":["$b","$b"]}}}`, `{"$group":{"by":"$b","make":{"a":{"$first":"$a"},"b":{"$last":"$b"}}}}`, `{"$skip":1},{"$limit":2}`} {
		for _, then := range []string{`{"$unwind":"a"}`, `{"$group":{"by":{"$size":"$a"},"make":{"l":{"$list":"$b"}}}}`, `{"$sort":{"a":1}}`, `{"$unwind":"b"}`, `{"$project":{"v":{"$add":["$b",1]}}}`, `{"$match":{"$nor":[{"b":"x"}]}},{"$limit":1}`} {
			is(t, "P7: Create(y)", s.Create("y"), api.OK)
			for _, doc := range ran(s, "x", "["+first+"]").docs {
				is(t, "P14: Insert(y, "+doc+")", s.Insert("y", doc), api.OK)
			}
			want := ran(s, "y", "["+then+"]")
			if want.errno != api.OK {
				want.stage += strings.Count(first, `},{"`) + 1
			}
			if got := ran(s, "x", "["+first+","+then+"]"); !got.is(want) {
				t.Errorf("P14: [%s] and [%s] = %v, both %v", first, then, want, got)
			}
			is(t, "P7: Drop(y)", s.Drop("y"), api.OK)
		}
	}
}

func TestMatchFindsWhatFindFinds(t *testing.T) {
	s := with(t, some()...)
	for filter := range findings() {
		found, _ := s.Find("x", filter)
		runs(t, s, `[{"$match":`+filter+`}]`, found...)
		others, _ := s.Find("x", `{"$nor":[`+filter+`]}`)
		runs(t, s, `[{"$match":{"$nor":[`+filter+`]}}]`, others...)
		runs(t, s, `[{"$match":`+filter+`},{"$match":{"$nor":[`+filter+`]}},{"$unwind":"no"}]`)
	}
	for filter, errno := range wrongFilters() {
		if errno == api.ErrFilter {
			failed(t, s, `[{"$match":`+filter+`}]`, 0, 0, api.ErrPipe)
		}
	}
}

// TestRunAnswersTextsThatAreParsedAsTheyWere: what is printed goes in again.
func TestRunAnswersTextsThatAreParsedAsTheyWere(t *testing.T) {
	s := with(t, `{"_id":1,"a":"\u0000\"\\\/é\u2028😀","b":[null,true,-9223372036854775808,{"":{}}]}`)
	for _, pipeline := range []string{`[]`, `[{"$project":{"v":{"$join":["$a","\u001f","$a"]},"\u0009\"":"$b"}}]`, `[{"$group":{"by":"$a","make":{"é":{"$list":"$b"}}}}]`, `[{"$unwind":"b"}]`} {
		got := ran(s, "x", pipeline)
		if got.errno != api.OK || len(got.docs) == 0 {
			t.Errorf("P10: Run(x, %s) = %v", pipeline, got)
		}
		for _, doc := range got.docs {
			v, errno := text.Parse(doc)
			if again, _ := text.Print(v); again != doc || errno != api.OK {
				t.Errorf("P14: %s is parsed as %s, %d", doc, again, errno)
			}
		}
	}
}

// TestRunEndsAtAllTexts takes pipelines apart and puts them together at random.
func TestRunEndsAtAllTexts(t *testing.T) {
	r := rand.New(rand.NewSource(11))
	s := with(t, some()...)
	pieces := []string{"[", "]", "{", "}", ",", ":", "1", "-1", "null", "true", `"a"`, `"$a"`, `"$"`, `""`, `"_id"`, `"by"`, `"make"`, `"$match":`, `"$project":`, `"$unwind":"a"`, `"$group":{"by":`, `"make":{"a":`, `"$sort":{`, `"$skip":`, `"$limit":`, `{"$add":[`, `{"$mul":[`, `{"$join":[`, `{"$size":`, `{"$if":[{}`, `{"$lit":`, `{"$sum":`, `{"$count":null}`, `{"$list":`, `"a":`, "9223372036854775807", "\xff", `\u0000`, " "}
	whole := []string{`[{"$unwind":"c"},{"$group":{"by":"$c","make":{"n":{"$count":null},"s":{"$sum":{"$add":["$_id",1]}}}}},{"$sort":{"n":-1}}]`, `[{"$project":{"a":{"$if":[{"a":{"$kind":5}},{"$size":"$a"},{"$join":["x","$b"]}]},"b":{"$lit":[1,{"a":2}]}}},{"$match":{"b.1.a":2}},{"$skip":1},{"$limit":3}]`}
	seen := map[api.Errno]int{}
	for range 20000 {
		pipeline := whole[r.Intn(len(whole))]
		for range 1 + r.Intn(4) {
			from := r.Intn(len(pipeline) + 1)
			to := min(len(pipeline), from+r.Intn(6))
			pipeline = pipeline[:from] + pieces[r.Intn(len(pieces))] + pipeline[to:]
		}
		got := ran(s, "x", pipeline)
		seen[got.errno]++
		if got.errno != api.OK && got.docs != nil || got.errno < api.ErrType && got.stage+got.doc != 0 {
			t.Fatalf("P1: Run(x, %s) = %v", pipeline, got)
		}
	}
	has(t, s, "x", some()...)
	if seen[api.OK] == 0 || seen[api.ErrText] == 0 || seen[api.ErrPipe] == 0 || seen[api.ErrType] == 0 {
		t.Errorf("answers %v", seen)
	}
}
