package pipe_test

import (
	"strconv"
	"strings"
	"testing"

	"sheaf/api"
)

// grouped is a pipeline of one stage.
func grouped(by, made string) string {
	return `[{"$group":{"by":` + by + `,"make":` + made + `}}]`
}

func TestGroupsAreInTheOrderOfTheirFirstDocuments(t *testing.T) {
	for by, want := range map[string][]string{
		`null`: {`{"_id":null,"n":4}`}, `"x"`: {`{"_id":"x","n":4}`}, `"$b"`: {`{"_id":"x","n":2}`, `{"_id":"y","n":2}`}, `"$a"`: {`{"_id":3,"n":2}`, `{"_id":1,"n":1}`, `{"_id":null,"n":1}`}, `"$x"`: {`{"_id":null,"n":4}`}, `"$_id"`: {`{"_id":1,"n":1}`, `{"_id":2,"n":1}`, `{"_id":3,"n":1}`, `{"_id":4,"n":1}`},
		`{"$if":[{"c":{"$kind":5}},"$c",{"$lit":[[3],4]}]}`: {`{"_id":[1,2],"n":1}`, `{"_id":[],"n":1}`, `{"_id":[[3],4],"n":2}`}, `"$c"`: {`{"_id":[1,2],"n":1}`, `{"_id":[],"n":1}`, `{"_id":[[3],4],"n":1}`, `{"_id":{"d":[5,6]},"n":1}`},
	} {
		gives(t, grouped(by, `{"n":{"$count":null}}`), some(), want...)
		gives(t, `[{"$group":{"make":{"n":{"$count":null}},"by":`+by+`}}]`, some(), want...)
		gives(t, grouped(by, `{"n":{"$count":null}}`), nil)
	}
	gives(t, grouped(`"$a"`, `{}`), some(), `{"_id":3}`, `{"_id":1}`, `{"_id":null}`)
	gives(t, grouped(`"$v"`, `{}`), []string{`{"v":1}`, `{"v":"1"}`, `{"v":true}`, `{"v":[1]}`, `{"v":null}`, `{"v":0}`, `{"v":{"a":1,"b":2}}`, `{"v":{"b":2,"a":1}}`, `{}`, `{"v":false}`, `{"v":""}`}, `{"_id":1}`, `{"_id":"1"}`, `{"_id":true}`, `{"_id":[1]}`, `{"_id":null}`, `{"_id":0}`, `{"_id":{"a":1,"b":2}}`, `{"_id":{"b":2,"a":1}}`, `{"_id":false}`, `{"_id":""}`)
}

func TestWhatGroupsGather(t *testing.T) {
	gives(t, grouped(`"$b"`, `{"n":{"$count":null},"s":{"$sum":"$_id"},"min":{"$min":"$a"},"max":{"$max":"$a"},"f":{"$first":"$_id"},"l":{"$last":"$_id"},"all":{"$list":"$a"}}`), some(), `{"_id":"x","n":2,"s":5,"min":null,"max":3,"f":1,"l":4,"all":[3,null]}`, `{"_id":"y","n":2,"s":5,"min":1,"max":3,"f":2,"l":3,"all":[1,3]}`)
	docs := []string{`{"v":5,"w":"b"}`, `{"v":-7,"w":[]}`, `{"v":9}`, `{"v":9,"w":{"a":1}}`, `{"v":0,"w":"a"}`}
	for made, want := range map[string]string{
		`{"$sum":"$v"}`: "16", `{"$sum":2}`: "10", `{"$sum":{"$mul":["$v",-1]}}`: "-16", `{"$min":"$v"}`: "-7", `{"$max":"$v"}`: "9", `{"$first":"$v"}`: "5", `{"$last":"$v"}`: "0", `{"$list":"$v"}`: "[5,-7,9,9,0]", `{"$count":null}`: "5",
		`{"$min":"$w"}`: "null", `{"$max":"$w"}`: `{"a":1}`, `{"$first":"$w"}`: `"b"`, `{"$last":"$w"}`: `"a"`, `{"$list":"$w"}`: `["b",[],null,{"a":1},"a"]`, `{"$list":{"$lit":[1]}}`: "[[1],[1],[1],[1],[1]]", `{"$first":"$x"}`: "null", `{"$last":"$x"}`: "null", `{"$min":"$x"}`: "null", `{"$max":"$x"}`: "null", `{"$max":false}`: "false",
		`{"$max":{"$if":[{"v":9},null,"$w"]}}`: "[]", `{"$min":{"$if":[{"w":{"$kind":4}},"$w",{"$lit":{}}]}}`: `"a"`,
	} {
		gives(t, grouped("0", `{"v":`+made+`}`), docs, `{"_id":0,"v":`+want+`}`)
		gives(t, grouped("0", `{"u":`+made+`,"":`+made+`,"a.b":`+made+`}`), docs, `{"_id":0,"u":`+want+`,"":`+want+`,"a.b":`+want+`}`)
	}
	gives(t, grouped(`"$g"`, `{"l":{"$list":"$v"}}`), []string{`{"g":1,"v":1}`, `{"g":2,"v":2}`, `{"g":1,"v":3}`, `{"g":3,"v":4}`, `{"g":2,"v":5}`, `{"g":1,"v":6}`}, `{"_id":1,"l":[1,3,6]}`, `{"_id":2,"l":[2,5]}`, `{"_id":3,"l":[4]}`)
}

func TestSumsAreAddedInTurn(t *testing.T) {
	docs := func(numbers ...string) []string {
		var l []string
		for _, n := range numbers {
			l = append(l, `{"v":`+n+`}`)
		}
		return l
	}
	const most, least = "9223372036854775807", "-9223372036854775808"
	sum := grouped("1", `{"s":{"$sum":"$v"}}`)
	gives(t, sum, docs(most), `{"_id":1,"s":9223372036854775807}`)
	gives(t, sum, docs(least, most, "1"), `{"_id":1,"s":0}`)
	gives(t, sum, docs(most, "-1", "1"), `{"_id":1,"s":9223372036854775807}`)
	fails(t, sum, docs(most, "1", "-1"), 0, 1, api.ErrOver)
	fails(t, sum, docs(least, "0", "-1", `"x"`), 0, 2, api.ErrOver)
	fails(t, sum, docs("1", `"x"`, most), 0, 1, api.ErrType)
	for _, v := range []string{"null", "true", `"1"`, "[1]", `{"a":1}`} {
		fails(t, sum, docs("1", "2", v, "3"), 0, 2, api.ErrType)
	}
	fails(t, sum, []string{`{"v":1}`, `{}`}, 0, 1, api.ErrType)
	gives(t, grouped(`"$v"`, `{"s":{"$sum":"$v"}}`), docs(most, "1", least, "1"), `{"_id":9223372036854775807,"s":9223372036854775807}`, `{"_id":1,"s":2}`, `{"_id":-9223372036854775808,"s":-9223372036854775808}`)
}

func TestErrorsInGroups(t *testing.T) {
	const over, wrong = `{"$add":[9223372036854775807,1]}`, `{"$size":1}`
	for _, c := range []struct {
		by, made string
		doc      int
		errno    api.Errno
	}{
		{over, `{"s":{"$sum":` + wrong + `}}`, 0, api.ErrOver}, {wrong, `{"s":{"$sum":` + over + `}}`, 0, api.ErrType},
		{"1", `{"a":{"$min":` + over + `},"b":{"$max":` + wrong + `}}`, 0, api.ErrOver}, {"1", `{"b":{"$first":` + wrong + `},"a":{"$last":` + over + `}}`, 0, api.ErrType},
		{"1", `{"a":{"$list":` + over + `}}`, 0, api.ErrOver}, {"1", `{"a":{"$count":null},"b":{"$list":` + wrong + `}}`, 0, api.ErrType},
		// What is worked out is added at once, ahead of the next entry.
		{"1", `{"a":{"$sum":"$b"},"b":{"$min":` + over + `}}`, 0, api.ErrType}, {"1", `{"a":{"$sum":{"$mul":["$_id",4611686018427387904]}},"b":{"$sum":"$a"}}`, 1, api.ErrOver}, {"1", `{"b":{"$sum":{"$if":[{"_id":2},"x",1]}},"a":{"$sum":{"$mul":["$_id",4611686018427387904]}}}`, 1, api.ErrType},
		{`{"$add":["$a",0]}`, `{"n":{"$count":null}}`, 3, api.ErrType}, {`{"$add":["$a",0]}`, `{"s":{"$sum":"$b"}}`, 0, api.ErrType}, {"1", `{"s":{"$sum":"$a"}}`, 3, api.ErrType}, {"1", `{"f":{"$first":{"$add":["$a",0]}}}`, 3, api.ErrType}, {`"$b"`, `{"s":{"$sum":{"$add":[9223372036854775803,"$_id"]}}}`, 2, api.ErrOver},
	} {
		fails(t, grouped(c.by, c.made), some(), 0, c.doc, c.errno)
		fails(t, `[{"$sort":{"_id":1}},`+grouped(c.by, c.made)[1:len(grouped(c.by, c.made))-1]+`,{"$limit":0}]`, some(), 1, c.doc, c.errno)
		gives(t, `[{"$limit":0},`+grouped(c.by, c.made)[1:], some())
	}
}

func TestGroupsThatAreTooBig(t *testing.T) {
	long := func(id, n int) string {
		return `{"_id":` + strconv.Itoa(id) + `,"g":` + strconv.Itoa(id%3) + `,"s":"` + strings.Repeat("x", n) + `"}`
	}
	list := grouped(`"$g"`, `{"l":{"$list":"$s"}}`)
	// The bytes of {"_id":number,"l":[text]} are 5, 2, 3, 9, 2, 1, 5, 5 and those of the text.
	gives(t, list, []string{long(0, 968)}, `{"_id":0,"l":["`+strings.Repeat("x", 968)+`"]}`)
	fails(t, grouped(`"$g"`, `{"l":{"$list":{"$join":["$s","x"]}}}`), []string{long(1, 1), long(0, 968)}, 0, 1, api.ErrBig)
	docs := []string{long(0, 1), long(1, 500), long(3, 2), long(2, 500), long(5, 500), long(4, 500), long(6, 900)}
	fails(t, list, docs, 0, 1, api.ErrBig)
	fails(t, list, docs[:5], 0, 2, api.ErrBig)
	fails(t, `[{"$skip":3},`+list[1:], docs, 1, 0, api.ErrBig)
	fails(t, `[{"$skip":5},`+list[1:], append(docs, docs[6]), 1, 1, api.ErrBig)
	// An error at any document is ahead of what is too big.
	fails(t, grouped(`"$g"`, `{"l":{"$list":"$s"},"n":{"$sum":{"$if":[{"_id":6},"x",1]}}}`), docs, 0, 6, api.ErrType)
	fails(t, grouped(`{"$join":["$s","$s"]}`, `{}`), docs, 0, 1, api.ErrBig)
	fails(t, grouped("1", `{"m":{"$max":{"$join":["$s","$s","$s","$s","$s","$s","$s","$s","$s"]}}}`), docs, 0, 0, api.ErrBig)
	gives(t, grouped("1", `{"m":{"$min":{"$join":["$s","$s","$s","$s","$s","$s","$s","$s","$s"]}}}`), docs, `{"_id":1,"m":"xxxxxxxxx"}`)
	fails(t, list[:len(list)-1]+`,{"$group":{"by":{"$size":1},"make":{}}}]`, docs, 0, 1, api.ErrBig)
}

func TestGroupsThatAreTooDeep(t *testing.T) {
	deep := func(id, n int) string {
		return `{"_id":` + strconv.Itoa(id) + `,"a":` + strings.Repeat("[", n) + strings.Repeat("]", n) + `}`
	}
	list := grouped(`"$_id"`, `{"l":{"$list":"$a"}}`)
	gives(t, list, []string{deep(1, 10)}, `{"_id":1,"l":[`+strings.Repeat("[", 10)+strings.Repeat("]", 10)+`]}`)
	fails(t, list, []string{deep(1, 10), deep(2, 11)}, 0, 1, api.ErrBig)
	gives(t, grouped(`"$a"`, `{"f":{"$first":"$a"}}`), []string{deep(1, 11)}, `{"_id":`+strings.Repeat("[", 11)+strings.Repeat("]", 11)+`,"f":`+strings.Repeat("[", 11)+strings.Repeat("]", 11)+`}`)
}

// TestMoreGroupsThanTwoHundred: no promise bounds them.
func TestMoreGroupsThanTwoHundred(t *testing.T) {
	docs := numbered(300, "")
	gives(t, grouped(`"$_id"`, "{}"), docs, docs...)
	gives(t, `[{"$project":{"_id":"$_id"}}]`, docs, docs...)
}
