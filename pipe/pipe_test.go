package pipe_test

import (
	"slices"
	"strconv"
	"strings"
	"testing"

	"sheaf/api"
	"sheaf/pipe"
	"sheaf/text"
)

func value(t *testing.T, s string) api.Value {
	t.Helper()
	v, errno := text.Parse(s)
	if errno != api.OK {
		t.Fatalf("Parse(%s) = error %d", s, errno)
	}
	return v
}

func values(t *testing.T, texts []string) []api.Value {
	t.Helper()
	var l []api.Value
	for _, s := range texts {
		l = append(l, value(t, s))
	}
	return l
}

func printed(t *testing.T, docs []api.Value) []string {
	t.Helper()
	var l []string
	for _, doc := range docs {
		s, errno := text.Print(doc)
		if errno != api.OK {
			t.Fatalf("P13: what comes out is no value: error %d", errno)
		}
		l = append(l, s)
	}
	return l
}

func parsed(t *testing.T, s string) pipe.Pipeline {
	t.Helper()
	p, errno := pipe.Parse(value(t, s))
	if errno != api.OK {
		t.Fatalf("P10: Parse(%s) = error %d", s, errno)
	}
	return p
}

// answer holds what a pipeline answers, twice, against what is due, and sees
// that it has not written into what went in.
func answer(t *testing.T, written string, docs []string, want []string, fault pipe.Fault) {
	t.Helper()
	p, in := parsed(t, written), values(t, docs)
	for range 2 {
		out, at := p.Run(in)
		if got := printed(t, out); !slices.Equal(got, want) || at != fault {
			t.Errorf("P10: %.300s = %.2000q, %v, want %.2000q, %v", written, got, at, want, fault)
		}
		if got := printed(t, in); !slices.Equal(got, docs) {
			t.Errorf("P2: %.300s has written into what went in: %.2000q", written, got)
		}
	}
}

// gives: these documents come out.
func gives(t *testing.T, written string, docs []string, want ...string) {
	t.Helper()
	answer(t, written, docs, want, pipe.Fault{})
}

// fails: this is the error, and where it happens.
func fails(t *testing.T, written string, docs []string, stage, doc int, errno api.Errno) {
	t.Helper()
	answer(t, written, docs, nil, pipe.Fault{Stage: stage, Doc: doc, Errno: errno})
}

func some() []string {
	return []string{`{"_id":1,"a":3,"b":"x","c":[1,2]}`, `{"_id":2,"a":1,"b":"y","c":[]}`, `{"_id":3,"a":3,"b":"y","c":[[3],4]}`, `{"_id":4,"b":"x","c":{"d":[5,6]}}`}
}

// chosen are the documents of these numbers of some.
func chosen(numbers ...int) []string {
	var l []string
	for _, n := range numbers {
		l = append(l, some()[n])
	}
	return l
}

func numbered(n int, rest string) []string {
	var l []string
	for i := range n {
		l = append(l, `{"_id":`+strconv.Itoa(i)+rest+`}`)
	}
	return l
}

func TestStagesThatChoose(t *testing.T) {
	for written, want := range map[string][]int{
		`[]`: {0, 1, 2, 3}, `[{"$match":{}}]`: {0, 1, 2, 3}, `[{"$match":{"a":3}}]`: {0, 2}, `[{"$match":{"x":1}}]`: {}, `[{"$match":{"a":3}},{"$match":{"b":"y"}}]`: {2}, `[{"$match":{"c.0":{"$exists":true}}}]`: {0, 2},
		`[{"$skip":0}]`: {0, 1, 2, 3}, `[{"$skip":1}]`: {1, 2, 3}, `[{"$skip":3}]`: {3}, `[{"$skip":4}]`: {}, `[{"$skip":5}]`: {}, `[{"$skip":9223372036854775807}]`: {}, `[{"$skip":4294967296}]`: {},
		`[{"$limit":0}]`: {}, `[{"$limit":1}]`: {0}, `[{"$limit":3}]`: {0, 1, 2}, `[{"$limit":4}]`: {0, 1, 2, 3}, `[{"$limit":5}]`: {0, 1, 2, 3}, `[{"$limit":9223372036854775807}]`: {0, 1, 2, 3}, `[{"$limit":4294967296}]`: {0, 1, 2, 3},
		`[{"$skip":1},{"$limit":2}]`: {1, 2}, `[{"$limit":2},{"$skip":1}]`: {1}, `[{"$limit":2},{"$limit":3},{"$skip":0}]`: {0, 1}, `[{"$skip":1},{"$skip":1}]`: {2, 3},
		`[{"$match":{"_id":{"$gt":1}}},{"$limit":1}]`: {1}, `[{"$limit":1},{"$match":{"_id":{"$gt":1}}}]`: {},
	} {
		gives(t, written, some(), chosen(want...)...)
		gives(t, written, nil)
	}
}

func TestSort(t *testing.T) {
	for written, want := range map[string][]int{
		`{"_id":1}`: {0, 1, 2, 3}, `{"_id":-1}`: {3, 2, 1, 0}, `{"a":1}`: {3, 1, 0, 2}, `{"a":-1}`: {0, 2, 1, 3}, `{"x":1}`: {0, 1, 2, 3}, `{"x":-1}`: {0, 1, 2, 3}, `{"b":1}`: {0, 3, 1, 2}, `{"b":-1}`: {1, 2, 0, 3},
		`{"a":-1,"b":-1}`: {2, 0, 1, 3}, `{"b":1,"_id":-1}`: {3, 0, 2, 1}, `{"b":-1,"a":-1}`: {2, 1, 0, 3}, `{"a":1,"b":1,"_id":-1}`: {3, 1, 0, 2}, `{"x":1,"y":-1,"_id":-1}`: {3, 2, 1, 0},
		`{"c":1}`: {1, 0, 2, 3}, `{"c.0":1}`: {1, 3, 0, 2}, `{"c.0":-1}`: {2, 0, 1, 3}, `{"c.d.1":-1,"c.1":-1}`: {3, 2, 0, 1},
	} {
		gives(t, `[{"$sort":`+written+`}]`, some(), chosen(want...)...)
		gives(t, `[{"$sort":`+written+`}]`, nil)
	}
	gives(t, `[{"$sort":{"$a.$b":1}}]`, []string{`{"$a":{"$b":2}}`, `{"$a":{"$b":1}}`}, `{"$a":{"$b":1}}`, `{"$a":{"$b":2}}`)
	kinds := []string{`{"a":{}}`, `{"a":[]}`, `{"a":""}`, `{"a":-9}`, `{"a":false}`, `{"a":null}`, `{"b":1}`}
	gives(t, `[{"$sort":{"a":1}}]`, kinds, kinds[5], kinds[6], kinds[4], kinds[3], kinds[2], kinds[1], kinds[0])
	gives(t, `[{"$sort":{"a":-1}}]`, kinds, kinds...)
}

// TestSortLeavesEqualOnesAsTheyCame has more of them than sorting by insertion would go with.
func TestSortLeavesEqualOnesAsTheyCame(t *testing.T) {
	var docs, up, down []string
	for i := range 200 {
		docs = append(docs, `{"_id":`+strconv.Itoa(i)+`,"a":`+strconv.Itoa(i*7%5)+`}`)
	}
	for a := range 5 {
		for _, doc := range docs {
			if strings.HasSuffix(doc, `"a":`+strconv.Itoa(a)+`}`) {
				up = append(up, doc)
			}
			if strings.HasSuffix(doc, `"a":`+strconv.Itoa(4-a)+`}`) {
				down = append(down, doc)
			}
		}
	}
	gives(t, `[{"$sort":{"a":1}}]`, docs, up...)
	gives(t, `[{"$sort":{"a":-1}}]`, docs, down...)
}

func TestProject(t *testing.T) {
	gives(t, `[{"$project":{"v":"$a"}}]`, some(), `{"v":3}`, `{"v":1}`, `{"v":3}`, `{"v":null}`)
	gives(t, `[{"$project":{"b":"$a","":"$b","a.b":1,"a":{"$lit":["$b"]},"_id":{"$join":["$b","$b"]},"a$":null}}]`, some()[:2], `{"b":3,"":"x","a.b":1,"a":["$b"],"_id":"xx","a$":null}`, `{"b":1,"":"y","a.b":1,"a":["$b"],"_id":"yy","a$":null}`)
	gives(t, `[{"$project":{"a":"$c"}},{"$project":{"b":"$a","c":"$c"}}]`, some()[:1], `{"b":[1,2],"c":null}`)
	gives(t, `[{"$project":{"v":{"$add":["$a",1]}}}]`, nil)
	fails(t, `[{"$project":{"v":{"$add":["$a",1]}}}]`, some(), 0, 3, api.ErrType)
	fails(t, `[{"$skip":1},{"$project":{"v":{"$add":["$a",1]}}}]`, some(), 1, 2, api.ErrType)
	fails(t, `[{"$project":{"v":{"$add":["$a",1]}}},{"$limit":0}]`, some(), 0, 3, api.ErrType)
	fails(t, `[{"$project":{"v":{"$add":[9223372036854775805,"$_id"]}}}]`, some(), 0, 2, api.ErrOver)
	fails(t, `[{"$project":{"v":{"$add":[9223372036854775807,1]},"w":{"$size":1}}}]`, some(), 0, 0, api.ErrOver)
	fails(t, `[{"$project":{"v":{"$size":1},"w":{"$add":[9223372036854775807,1]}}}]`, some(), 0, 0, api.ErrType)
}

func TestUnwind(t *testing.T) {
	gives(t, `[{"$limit":3},{"$unwind":"c"}]`, some(), `{"_id":1,"a":3,"b":"x","c":1}`, `{"_id":1,"a":3,"b":"x","c":2}`, `{"_id":3,"a":3,"b":"y","c":[3]}`, `{"_id":3,"a":3,"b":"y","c":4}`)
	gives(t, `[{"$match":{"_id":3}},{"$unwind":"c.0"}]`, some(), `{"_id":3,"a":3,"b":"y","c":[3,4]}`)
	gives(t, `[{"$skip":3},{"$unwind":"c.d"}]`, some(), `{"_id":4,"b":"x","c":{"d":5}}`, `{"_id":4,"b":"x","c":{"d":6}}`)
	gives(t, `[{"$unwind":"a"},{"$unwind":"a"}]`, []string{`{"a":[[1,2],[],[3]],"b":[9]}`}, `{"a":1,"b":[9]}`, `{"a":2,"b":[9]}`, `{"a":3,"b":[9]}`)
	gives(t, `[{"$unwind":"a"},{"$unwind":"b"}]`, []string{`{"a":[1,2],"b":[3,4]}`}, `{"a":1,"b":3}`, `{"a":1,"b":4}`, `{"a":2,"b":3}`, `{"a":2,"b":4}`)
	gives(t, `[{"$unwind":"$a.$"}]`, []string{`{"a":1,"$a":{"$":[true]}}`}, `{"a":1,"$a":{"$":true}}`)
	gives(t, `[{"$unwind":"x"}]`, nil)
	fails(t, `[{"$unwind":"c"}]`, some(), 0, 3, api.ErrType)
	fails(t, `[{"$unwind":"x"}]`, some(), 0, 0, api.ErrType)
	fails(t, `[{"$skip":2},{"$unwind":"a"},{"$limit":0}]`, some(), 1, 0, api.ErrType)
	fails(t, `[{"$limit":3},{"$unwind":"c"},{"$unwind":"c"}]`, some(), 2, 0, api.ErrType)
	fails(t, `[{"$match":{"_id":{"$in":[2,3]}}},{"$unwind":"c"},{"$unwind":"c"}]`, some(), 2, 1, api.ErrType)
	for _, a := range []string{"null", "true", "1", `"[1]"`, `{"0":1}`} {
		fails(t, `[{"$unwind":"a"}]`, []string{`{"a":[1]}`, `{"a":` + a + `}`}, 0, 1, api.ErrType)
	}
}

func TestUnwindLetsOutTwoHundred(t *testing.T) {
	docs := numbered(60, `,"a":[1,2,3,4],"b":[0,0]`)
	out, fault := parsed(t, `[{"$limit":50},{"$unwind":"a"}]`).Run(values(t, docs))
	if got := printed(t, out); len(got) != 200 || got[199] != `{"_id":49,"a":4,"b":[0,0]}` || fault != (pipe.Fault{}) {
		t.Errorf("P13: %d documents, %v", len(got), fault)
	}
	fails(t, `[{"$unwind":"a"}]`, docs, 0, 50, api.ErrFull)
	fails(t, `[{"$limit":51},{"$unwind":"a"},{"$limit":0}]`, docs, 1, 50, api.ErrFull)
	fails(t, `[{"$limit":30},{"$unwind":"a"},{"$unwind":"b"}]`, docs, 2, 100, api.ErrFull)
	long := `{"_id":-1,"a":[` + strings.Repeat("0,", 100) + `0]}`
	fails(t, `[{"$unwind":"a"}]`, []string{long, long, `{"a":1}`}, 0, 1, api.ErrFull)
	fails(t, `[{"$unwind":"a"}]`, []string{long, `{"a":1}`, long}, 0, 1, api.ErrType)
	gives(t, `[{"$limit":50},{"$unwind":"a"},{"$group":{"by":null,"make":{"n":{"$count":null}}}}]`, append(docs[:49:49], `{"a":[1,2,3,4]}`), `{"_id":null,"n":200}`)
	fails(t, `[{"$unwind":"a"}]`, append(docs[:49:49], `{"a":[1,2,3,4,5]}`), 0, 49, api.ErrFull)
	gives(t, `[{"$unwind":"a"},{"$limit":1}]`, append(docs[:50:50], `{"a":[]}`), `{"_id":0,"a":1,"b":[0,0]}`)
}

// TestUnwindLetsNothingOutThatIsTooBig has documents come in that are too big themselves: an element never has more bytes than its List.
func TestUnwindLetsNothingOutThatIsTooBig(t *testing.T) {
	fails(t, `[{"$unwind":"a"}]`, []string{`{"a":[1,2]}`, `{"a":[1,2],"b":"` + strings.Repeat("x", 1000) + `"}`}, 0, 1, api.ErrBig)
	docs := append(numbered(50, `,"a":[1,2,3,4]`), `{"a":[1,2],"b":"`+strings.Repeat("x", 1000)+`"}`)
	fails(t, `[{"$unwind":"a"}]`, docs, 0, 50, api.ErrBig)
	fails(t, `[{"$unwind":"a"}]`, []string{`{"a":[` + strings.Repeat("0,", 201) + `"` + strings.Repeat("x", 1000) + `"]}`}, 0, 0, api.ErrFull)
	fails(t, `[{"$unwind":"a"}]`, []string{`{"a":[` + strings.Repeat("0,", 200) + `"` + strings.Repeat("x", 1000) + `"]}`}, 0, 0, api.ErrBig)
}

func TestProjectLetsNothingOutThatIsTooBig(t *testing.T) {
	// The bytes of {"a":text} are 5, 2, 1, 5 and those of the text.
	docs := []string{`{"s":"` + strings.Repeat("x", 900) + `"}`, `{"s":"` + strings.Repeat("y", 901) + `"}`}
	tail := strings.Repeat("z", 87)
	gives(t, `[{"$limit":1},{"$project":{"a":{"$join":["$s","`+tail+`"]}}}]`, docs, `{"a":"`+strings.Repeat("x", 900)+tail+`"}`)
	fails(t, `[{"$project":{"a":{"$join":["$s","`+tail+`"]}}}]`, docs, 0, 1, api.ErrBig)
	fails(t, `[{"$skip":1},{"$project":{"a":{"$join":["$s","`+tail+`"]}}},{"$limit":0}]`, docs, 1, 0, api.ErrBig)
	fails(t, `[{"$project":{"a":{"$join":["$s","$s","$s","$s","$s"]}}}]`, docs, 0, 0, api.ErrBig)
	fails(t, `[{"$project":{"a":"$s","b":"$s","c":{"$size":"$s"}}}]`, docs, 0, 0, api.ErrType)
	fails(t, `[{"$project":{"a":"$s","b":"$s"}},{"$project":{"c":{"$size":1}}}]`, docs, 0, 0, api.ErrBig)
	fails(t, `[{"$project":{"a":"$s","b":{"$if":[{"t":1},{"$size":1},"$s"]}}}]`, append(docs, `{"t":1}`), 0, 0, api.ErrBig)
	fails(t, `[{"$project":{"a":"$s","b":{"$if":[{"t":1},{"$size":1},"$s"]}}}]`, append([]string{`{"t":1}`}, docs...), 0, 0, api.ErrType)
	deep := strings.Repeat("[", 11) + strings.Repeat("]", 11)
	gives(t, `[{"$project":{"b":"$a"}}]`, []string{`{"a":` + deep + `}`}, `{"b":`+deep+`}`)
}

func TestWhatIsNoPipeline(t *testing.T) {
	for _, s := range []string{
		"null", "true", "1", `"[]"`, "{}", `{"$skip":1}`, `{"0":{"$skip":1}}`,
		"[" + strings.Repeat(`{"$skip":0},`, 8) + `{"$skip":0}]`,
	} {
		refuses(t, s)
	}
	for _, s := range []string{
		"1", "null", "[]", `"$skip"`, `[{"$skip":1}]`, "{}", `{"$skip":1,"$limit":1}`, `{"$foo":1}`, `{"skip":1}`, `{"":1}`, `{"$":1}`, `{"$Skip":1}`, `{"$and":[{}]}`, `{"$add":[1,2]}`,
		`{"$match":1}`, `{"$match":[]}`, `{"$match":null}`, `{"$match":{"$x":1}}`, `{"$match":{"":1}}`, `{"$match":{"a":{"$gt":1,"b":1}}}`, `{"$match":{"$and":[]}}`,
		`{"$project":{}}`, `{"$project":[]}`, `{"$project":"a"}`, `{"$project":1}`, `{"$project":{"$a":1}}`, `{"$project":{"a":1,"$":1}}`, `{"$project":{"a":[1]}}`, `{"$project":{"a":{}}}`, `{"$project":{"a":1,"b":{"b":1}}}`, `{"$project":{"a":"$"}}`, `{"$project":{"a":"$a..b"}}`, `{"$project":{"a":{"$add":[1]}}}`, `{"$project":{"a":{"$if":[{"$x":1},1,1]}}}`,
		`{"$unwind":1}`, `{"$unwind":null}`, `{"$unwind":["a"]}`, `{"$unwind":{"a":1}}`, `{"$unwind":""}`, `{"$unwind":"."}`, `{"$unwind":"a."}`, `{"$unwind":".a"}`, `{"$unwind":"a..b"}`,
		`{"$sort":{}}`, `{"$sort":[]}`, `{"$sort":["a"]}`, `{"$sort":"a"}`, `{"$sort":1}`, `{"$sort":{"a":0}}`, `{"$sort":{"a":2}}`, `{"$sort":{"a":-2}}`, `{"$sort":{"a":true}}`, `{"$sort":{"a":"1"}}`, `{"$sort":{"a":null}}`, `{"$sort":{"a":[1]}}`, `{"$sort":{"a":1,"b":0}}`, `{"$sort":{"":1}}`, `{"$sort":{"a.":1}}`, `{"$sort":{"a":1,".a":1}}`, `{"$sort":{"a":4294967297}}`,
		`{"$skip":-1}`, `{"$skip":"1"}`, `{"$skip":null}`, `{"$skip":true}`, `{"$skip":[1]}`, `{"$skip":{}}`, `{"$skip":-9223372036854775808}`, `{"$limit":-1}`, `{"$limit":"1"}`, `{"$limit":false}`, `{"$limit":[]}`,
		`{"$group":1}`, `{"$group":[]}`, `{"$group":{}}`, `{"$group":{"by":1}}`, `{"$group":{"make":{}}}`, `{"$group":{"by":1,"make":{},"x":1}}`, `{"$group":{"by":1,"made":{}}}`, `{"$group":{"By":1,"make":{}}}`, `{"$group":[1,{}]}`,
		`{"$group":{"by":[1],"make":{}}}`, `{"$group":{"by":{},"make":{}}}`, `{"$group":{"by":"$","make":{}}}`, `{"$group":{"by":{"$sum":1},"make":{}}}`,
		`{"$group":{"by":1,"make":[]}}`, `{"$group":{"by":1,"make":null}}`, `{"$group":{"by":1,"make":1}}`, `{"$group":{"by":1,"make":{"_id":{"$count":null}}}}`, `{"$group":{"by":1,"make":{"$a":{"$count":null}}}}`, `{"$group":{"by":1,"make":{"a":{"$count":null},"_id":{"$sum":1}}}}`, `{"$group":{"by":1,"make":{"$count":null}}}`,
		`{"$group":{"by":1,"make":{"a":1}}}`, `{"$group":{"by":1,"make":{"a":"$a"}}}`, `{"$group":{"by":1,"make":{"a":{}}}}`, `{"$group":{"by":1,"make":{"a":[]}}}`, `{"$group":{"by":1,"make":{"a":{"$sum":1,"$min":1}}}}`, `{"$group":{"by":1,"make":{"a":{"$avg":1}}}}`, `{"$group":{"by":1,"make":{"a":{"sum":1}}}}`, `{"$group":{"by":1,"make":{"a":{"$add":[1,2]}}}}`, `{"$group":{"by":1,"make":{"a":{"$lit":1}}}}`,
		`{"$group":{"by":1,"make":{"a":{"$count":1}}}}`, `{"$group":{"by":1,"make":{"a":{"$count":"$a"}}}}`, `{"$group":{"by":1,"make":{"a":{"$count":{}}}}}`, `{"$group":{"by":1,"make":{"a":{"$count":[]}}}}`, `{"$group":{"by":1,"make":{"a":{"$count":false}}}}`,
		`{"$group":{"by":1,"make":{"a":{"$sum":[1]}}}}`, `{"$group":{"by":1,"make":{"a":{"$min":{}}}}}`, `{"$group":{"by":1,"make":{"a":{"$max":"$"}}}}`, `{"$group":{"by":1,"make":{"a":{"$first":{"a":1}}}}}`, `{"$group":{"by":1,"make":{"a":{"$last":[]}}}}`, `{"$group":{"by":1,"make":{"a":{"$list":["$a"]}}}}`, `{"$group":{"by":1,"make":{"a":{"$sum":1},"b":{"$sum":[]}}}}`,
	} {
		refuses(t, "["+s+"]")
		refuses(t, `[{"$limit":0},`+s+"]")
		refuses(t, "["+s+`,{"$skip":0}]`)
	}
}

func refuses(t *testing.T, s string) {
	t.Helper()
	if p, errno := pipe.Parse(value(t, s)); p != nil || errno != api.ErrPipe {
		t.Errorf("P10: Parse(%.300s) = %v, %d", s, p, errno)
	}
}

func TestUpToEightStages(t *testing.T) {
	for n := range 9 {
		stages := slices.Repeat([]string{`{"$skip":1}`}, n)
		out, fault := parsed(t, "["+strings.Join(stages, ",")+"]").Run(values(t, numbered(10, "")))
		if got := printed(t, out); !slices.Equal(got, numbered(10, "")[n:]) || fault != (pipe.Fault{}) {
			t.Errorf("P10: %d stages: %q, %v", n, got, fault)
		}
	}
	fails(t, "["+strings.Repeat(`{"$skip":1},`, 7)+`{"$unwind":"a"}]`, numbered(10, ""), 7, 0, api.ErrType)
}
