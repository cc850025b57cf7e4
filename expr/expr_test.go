package expr_test

import (
	"strings"
	"testing"

	"sheaf/api"
	"sheaf/expr"
	"sheaf/text"
)

const (
	least    = "-9223372036854775808"
	greatest = "9223372036854775807"
)

// written is a document with a value of each kind.
const written = `{"_id":7,"n":null,"t":true,"i":-3,"s":"text","e":"","l":[1,[2,3],{"m":4}],"z":[],"o":{"p":{"q":5},"":6},"$d":{"$":8},"min":` + least + `,"max":` + greatest + `}`

func value(t *testing.T, s string) api.Value {
	t.Helper()
	v, errno := text.Parse(s)
	if errno != api.OK {
		t.Fatalf("Parse(%s) = error %d", s, errno)
	}
	return v
}

func parsed(t *testing.T, s string) expr.Expr {
	t.Helper()
	e, errno := expr.Parse(value(t, s))
	if errno != api.OK {
		t.Fatalf("P11: %s = error %d", s, errno)
	}
	return e
}

// works holds expressions against the values that they are to work out.
func works(t *testing.T, want map[string]string) {
	t.Helper()
	for s, want := range want {
		e := parsed(t, s)
		for range 2 {
			v, errno := e.Of(value(t, written))
			if got, _ := text.Print(v); got != want || errno != api.OK {
				t.Errorf("P11: %s = %s, %d, want %s", s, got, errno, want)
			}
		}
	}
}

// fails holds expressions against the errors in which they are to end.
func fails(t *testing.T, want map[string]api.Errno) {
	t.Helper()
	for s, want := range want {
		if v, errno := parsed(t, s).Of(value(t, written)); errno != want || v.Kind != 0 || v.N != 0 || v.S != "" || len(v.L) != 0 {
			t.Errorf("P11: %s = %v, %d, want %d", s, v, errno, want)
		}
	}
}

func TestValuesThatAreThemselves(t *testing.T) {
	works(t, map[string]string{
		"null": "null", "true": "true", "false": "false", "0": "0", least: least, greatest: greatest, `""`: `""`, `"a"`: `"a"`, `"a$b"`: `"a$b"`, `" $a"`: `" $a"`, `"."`: `"."`,
		`{"$lit":null}`: "null", `{"$lit":"$s"}`: `"$s"`, `{"$lit":"$"}`: `"$"`, `{"$lit":[1,["$s"],{}]}`: `[1,["$s"],{}]`, `{"$lit":{}}`: "{}", `{"$lit":{"$lit":1}}`: `{"$lit":1}`, `{"$lit":{"$add":[1],"$x":2}}`: `{"$add":[1],"$x":2}`,
	})
}

func TestPaths(t *testing.T) {
	works(t, map[string]string{
		`"$_id"`: "7", `"$n"`: "null", `"$t"`: "true", `"$i"`: "-3", `"$s"`: `"text"`, `"$l"`: `[1,[2,3],{"m":4}]`, `"$l.0"`: "1", `"$l.1.1"`: "3", `"$l.2.m"`: "4", `"$o"`: `{"p":{"q":5},"":6}`, `"$o.p.q"`: "5", `"$$d"`: `{"$":8}`, `"$$d.$"`: "8",
		`"$x"`: "null", `"$l.3"`: "null", `"$l.01"`: "null", `"$l.m"`: "null", `"$o.q"`: "null", `"$s.0"`: "null", `"$n.a"`: "null", `"$d"`: "null", `"$ s"`: "null",
	})
}

func TestArithmetic(t *testing.T) {
	works(t, map[string]string{
		`{"$add":[1,2]}`: "3", `{"$add":["$i","$_id"]}`: "4", `{"$sub":[1,2]}`: "-1", `{"$sub":["$i","$_id"]}`: "-10", `{"$mul":[3,-2]}`: "-6", `{"$mul":["$i","$i"]}`: "9",
		`{"$add":["$max","$min"]}`: "-1", `{"$add":["$max",0]}`: greatest, `{"$add":[-9223372036854775807,-1]}`: least, `{"$add":[9223372036854775806,1]}`: greatest, `{"$add":["$min",0]}`: least,
		`{"$sub":["$min",0]}`: least, `{"$sub":["$min","$min"]}`: "0", `{"$sub":[-1,"$min"]}`: greatest, `{"$sub":[-9223372036854775807,1]}`: least, `{"$sub":[0,"$max"]}`: "-9223372036854775807",
		`{"$mul":["$min",1]}`: least, `{"$mul":[1,"$min"]}`: least, `{"$mul":["$min",0]}`: "0", `{"$mul":[0,"$min"]}`: "0", `{"$mul":["$max",-1]}`: "-9223372036854775807", `{"$mul":[-1,"$max"]}`: "-9223372036854775807", `{"$mul":[4611686018427387904,-2]}`: least, `{"$mul":[-2,4611686018427387904]}`: least,
		`{"$sub":[{"$mul":["$_id",10]},{"$add":[1,{"$size":"$l"}]}]}`: "66", `{"$add":[{"$lit":1},{"$if":[{},1,2]}]}`: "2",
	})
	fails(t, map[string]api.Errno{
		`{"$add":["$max",1]}`: api.ErrOver, `{"$add":[1,"$max"]}`: api.ErrOver, `{"$add":["$min",-1]}`: api.ErrOver, `{"$add":[-1,"$min"]}`: api.ErrOver, `{"$add":["$max","$max"]}`: api.ErrOver, `{"$add":["$min","$min"]}`: api.ErrOver,
		`{"$sub":["$min",1]}`: api.ErrOver, `{"$sub":["$max",-1]}`: api.ErrOver, `{"$sub":[0,"$min"]}`: api.ErrOver, `{"$sub":["$max","$min"]}`: api.ErrOver, `{"$sub":[-2,"$max"]}`: api.ErrOver,
		`{"$mul":["$min",-1]}`: api.ErrOver, `{"$mul":[-1,"$min"]}`: api.ErrOver, `{"$mul":["$max",2]}`: api.ErrOver, `{"$mul":[2,"$min"]}`: api.ErrOver, `{"$mul":[4611686018427387904,2]}`: api.ErrOver, `{"$mul":[4294967296,4294967296]}`: api.ErrOver, `{"$mul":["$min","$min"]}`: api.ErrOver,
		`{"$add":["$x",1]}`: api.ErrType, `{"$add":[1,"$x"]}`: api.ErrType, `{"$add":[1,true]}`: api.ErrType, `{"$add":["1",1]}`: api.ErrType, `{"$sub":["$l",1]}`: api.ErrType, `{"$sub":[1,"$o"]}`: api.ErrType, `{"$mul":["$n",0]}`: api.ErrType, `{"$mul":[0,"$s"]}`: api.ErrType,
	})
}

func TestJoin(t *testing.T) {
	works(t, map[string]string{
		`{"$join":["$s"]}`: `"text"`, `{"$join":["<","$s",">"]}`: `"<text>"`, `{"$join":["$e",""]}`: `""`, `{"$join":["a","b","c","d"]}`: `"abcd"`, `{"$join":[{"$join":["a","$s"]},{"$lit":"$s"}]}`: `"atext$s"`, `{"$join":["é","\u0001"]}`: `"é\u0001"`,
	})
	fails(t, map[string]api.Errno{
		`{"$join":["$i"]}`: api.ErrType, `{"$join":["a","$x"]}`: api.ErrType, `{"$join":["$l","a"]}`: api.ErrType, `{"$join":["a","b",null]}`: api.ErrType, `{"$join":[true]}`: api.ErrType, `{"$join":["$o"]}`: api.ErrType,
	})
}

// TestJoinMakesTextsThatAreNoValues: they may be compared, if not let out.
func TestJoinMakesTextsThatAreNoValues(t *testing.T) {
	v, errno := parsed(t, `{"$join":[`+strings.Repeat(`"$s",`, 700)+`"`+strings.Repeat("é", 150)+`",`+strings.Repeat(`"$s",`, 8)+`"$s"]}`).Of(value(t, `{"s":"`+strings.Repeat("xy", 400)+`"}`))
	if want := strings.Repeat("xy", 700*400) + strings.Repeat("é", 150) + strings.Repeat("xy", 9*400); v.S != want || v.Kind != api.Text || errno != api.OK {
		t.Errorf("P11: %d bytes, error %d, want %d", len(v.S), errno, len(want))
	}
}

func TestSize(t *testing.T) {
	works(t, map[string]string{`{"$size":"$l"}`: "3", `{"$size":"$z"}`: "0", `{"$size":"$l.1"}`: "2", `{"$size":{"$lit":[[],[]]}}`: "2", `{"$size":{"$if":[{"n":null},"$z","$l"]}}`: "0"})
	fails(t, map[string]api.Errno{`{"$size":"$o"}`: api.ErrType, `{"$size":"$s"}`: api.ErrType, `{"$size":"$x"}`: api.ErrType, `{"$size":3}`: api.ErrType, `{"$size":null}`: api.ErrType, `{"$size":{"$add":["$max",1]}}`: api.ErrOver})
}

func TestIfWorksOutOneOfTwo(t *testing.T) {
	works(t, map[string]string{
		`{"$if":[{"_id":7},1,2]}`: "1", `{"$if":[{"_id":8},1,2]}`: "2", `{"$if":[{},"$s","$l"]}`: `"text"`, `{"$if":[{"$nor":[{}]},"$s","$l.1"]}`: "[2,3]", `{"$if":[{"x":null},1,2]}`: "2",
		`{"$if":[{},1,{"$add":["$max",1]}]}`: "1", `{"$if":[{"x":1},{"$add":["$s",1]},{"$if":[{"i":{"$lt":0}},"below",{"$size":1}]}]}`: `"below"`,
	})
	fails(t, map[string]api.Errno{`{"$if":[{},{"$add":["$max",1]},1]}`: api.ErrOver, `{"$if":[{"x":1},1,{"$size":1}]}`: api.ErrType})
}

func TestTheFirstErrorFromTheLeftCounts(t *testing.T) {
	const over, wrong = `{"$add":["$max",1]}`, `{"$join":[1]}`
	fails(t, map[string]api.Errno{
		`{"$add":[` + over + `,` + wrong + `]}`: api.ErrOver, `{"$add":[` + wrong + `,` + over + `]}`: api.ErrType, `{"$join":["a",` + over + `,` + wrong + `]}`: api.ErrOver, `{"$join":["a",` + wrong + `,` + over + `]}`: api.ErrType,
		// Kinds are asked for behind all values.
		`{"$add":["a",` + over + `]}`: api.ErrOver, `{"$sub":[null,` + over + `]}`: api.ErrOver, `{"$mul":["$l",` + over + `]}`: api.ErrOver, `{"$join":[1,2,` + over + `]}`: api.ErrOver, `{"$join":["a",1,` + over + `,2]}`: api.ErrOver, `{"$add":[` + over + `,"a"]}`: api.ErrOver,
		`{"$add":["a",{"$mul":["b",` + over + `]}]}`: api.ErrOver, `{"$add":[{"$mul":["b",2]},` + over + `]}`: api.ErrType,
	})
}

func TestWhatIsNoExpression(t *testing.T) {
	for _, s := range []string{
		"[]", "[1]", `["$a"]`, "{}", `{"a":1}`, `{"":1}`, `{"lit":1}`, `{"$foo":1}`, `{"$":1}`, `{"$Add":[1,2]}`, `{"$sum":1}`, `{"$count":null}`, `{"$eq":1}`, `{"$lit":1,"$size":[]}`, `{"$lit":1,"a":1}`, `{"$add":[1,2],"$sub":[1,2]}`,
		`"$"`, `"$."`, `"$a."`, `"$.a"`, `"$a..b"`,
		`{"$add":1}`, `{"$add":{}}`, `{"$add":{"a":1,"b":2}}`, `{"$add":[]}`, `{"$add":[1]}`, `{"$add":[1,2,3]}`, `{"$add":[1,[2]]}`, `{"$add":[[1],2]}`, `{"$add":[1,"$"]}`, `{"$sub":[1]}`, `{"$sub":"$a"}`, `{"$mul":[1,2,3]}`, `{"$mul":[{},1]}`, `{"$mul":[{"$lit":[1,2]}]}`, `{"$mul":{"$lit":[1,2]}}`,
		`{"$join":[]}`, `{"$join":"a"}`, `{"$join":{"a":"b"}}`, `{"$join":["a",["b"]]}`, `{"$join":[{}]}`, `{"$join":{"$lit":["a"]}}`,
		`{"$size":[]}`, `{"$size":[1,2]}`, `{"$size":{}}`, `{"$size":"$"}`, `{"$size":{"a":[]}}`,
		`{"$if":1}`, `{"$if":[]}`, `{"$if":[{}]}`, `{"$if":[{},1]}`, `{"$if":[{},1,2,3]}`, `{"$if":[1,1,2]}`, `{"$if":[true,1,2]}`, `{"$if":[[],1,2]}`, `{"$if":[{"$x":1},1,2]}`, `{"$if":[{"a":{"$gt":1,"x":1}},1,2]}`, `{"$if":[{"":1},1,2]}`, `{"$if":[{},[],2]}`, `{"$if":[{},1,[]]}`, `{"$if":[{},1,{}]}`, `{"$if":[{},"$",2]}`, `{"$if":{"a":1}}`, `{"$if":{"a":{},"b":1,"c":2}}`,
	} {
		if e, errno := expr.Parse(value(t, s)); e != nil || errno != api.ErrPipe {
			t.Errorf("P11: Parse(%s) = %v, %d", s, e, errno)
		}
		within := `{"$join":[{"$if":[{},"a",` + s + `]}]}`
		if e, errno := expr.Parse(value(t, within)); e != nil || errno != api.ErrPipe {
			t.Errorf("P11: Parse(%s) = %v, %d", within, e, errno)
		}
	}
}
