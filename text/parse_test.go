package text_test

import (
	"encoding/json"
	"strconv"
	"strings"
	"testing"
	"unicode/utf8"

	"sheaf/api"
	"sheaf/text"
)

func brackets(n int, inner string) string {
	return strings.Repeat("[", n) + inner + strings.Repeat("]", n)
}

func TestParseReadsValues(t *testing.T) {
	for s, want := range map[string]api.Value{
		"null": null(), "true": truth(1), "false": truth(0),
		" \t\n\rnull \t\n\r": null(),
		"0":                  number(0), "-0": number(0), "7": number(7), "-12": number(-12), "1000000": number(1000000),
		"9223372036854775807": number(1<<63 - 1), "-9223372036854775808": number(-1 << 63),
		`""`: word(""), `" a "`: word(" a "), `"é😀"`: word("é😀"), "\"\x7f\"": word("\x7f"), "\"\u2028\ufffd\U0010ffff\"": word("\u2028\ufffd\U0010ffff"),
		`"\"\\\/\b\f\n\r\t"`: word("\"\\/\x08\x0c\x0a\x0d\x09"),
		`"\u0000\u001f\u0041\u00e9\u00E9\uABCD\uabcd\ud7ff\ue000\ufffd\uffff"`: word("\x00\x1fAéé\uabcd\uabcd\ud7ff\ue000\ufffd\uffff"),
		`"\ud800\udc00\uDBFF\uDFFF\ud83d\ude00x"`:                              word("\U00010000\U0010ffff😀x"),
		`"\\u0041"`: word(`\u0041`),
		"[]":        list(), " [ ] ": list(), "[1]": list(number(1)), "[ 1 , \"a\" , [ null ] ]": list(number(1), word("a"), list(null())),
		"{}": object(), " { } ": object(), `{"a":1}`: entry("a", number(1)),
		`{"b":1,"a":2,"":3}`:                               object(entry("b", number(1)), entry("a", number(2)), entry("", number(3))),
		` {"a" : [1, "\u00e9"]} `:                          entry("a", list(number(1), word("é"))),
		"{\n\t\"\\u0061\" :\r{ }\n}":                       entry("a", object()),
		`[{"a":1},{"a":{"a":2}}]`:                          list(entry("a", number(1)), entry("a", entry("a", number(2)))),
		`{"a":1,"A":1,"a ":1}`:                             object(entry("a", number(1)), entry("A", number(1)), entry("a ", number(1))),
		brackets(12, ""):                                   within(11, list()),
		brackets(12, `1`):                                  within(12, number(1)),
		brackets(11, `{"a":1}`):                            within(11, entry("a", number(1))),
		`[1,` + brackets(11, "") + `]`:                     list(number(1), within(10, list())),
		strings.Repeat(" ", api.MaxText-1) + "1":           number(1),
		`"` + strings.Repeat("x", api.MaxText-2) + `"`:     word(strings.Repeat("x", api.MaxText-2)),
		"[" + strings.Repeat("1,", api.MaxText/2-2) + "1]": times(api.MaxText/2-1, number(1)),
	} {
		if v, errno := text.Parse(s); errno != api.OK || !same(v, want) {
			t.Errorf("P3: Parse(%.100q) = %.200v, %d, want %.200v", s, v, errno, want)
		}
	}
}

func TestParseRefusesWhatIsNoText(t *testing.T) {
	for _, s := range []string{
		"", " ", "\x00", "null\x00", "\ufeffnull", "\v1", "\f1", "\u00a01", "1\u0085",
		"nul", "nulls", "Null", "tru", "True", "truefalse", "fals", "n", "NaN", "undefined", "'a'", "/**/1", "1//",
		"-", "--1", "+1", "- 1", "-a", "00", "01", "-01", "-00", "1.0", "1.", ".5", "1e2", "1E2", "0x1", "1_0", "1 2", "1a", "0b1", "٣",
		"9223372036854775808", "-9223372036854775809", "18446744073709551616", "100000000000000000000",
		`"`, `"a`, `a"`, `"a""`, `"a" "b"`, "\"\n\"", "\"\x00\"", "\"\x1f\"", "\"\t\"",
		"\"\xff\"", "\"\x80\"", "\"\xc3\"", "\"\xc3", "\"\xc0\x80\"", "\"\xed\xa0\x80\"", "\"\xf4\x90\x80\x80\"", "\"\xe2\x82\"", "\"\xc3\\u00a9\"",
		`"\`, `"\"`, `"\x"`, `"\a"`, `"\0"`, `"\N"`, `"\'"`, `"\U0041"`, "\"\\\n\"", "\"\\é\"",
		`"\u`, `"\u"`, `"\u1"`, `"\u12"`, `"\u123"`, `"\u123`, `"\u12g4"`, `"\ug234"`, `"\u-123"`, `"\u+123"`, `"\u 123"`, "\"\\u\x10\x10\x10\x10\"", "\"\\u004\x11\"",
		`"\ud800"`, `"\udbff"`, `"\ud800x"`, `"\ud800\n"`, `"\ud800\u0041"`, `"\ud800\ud800"`, `"\ud800\udbff"`, `"\ud800\ue000"`, `"\udc00"`, `"\udfff"`, `"\udc00\udc00"`, `"\udfff\udfff"`, `"\udc00\ud800"`, `"\ud800 \udc00"`, `"\ud800\udc0"`, `"\ud800udc00"`, `"\ud800\\udc00"`, `"\ud83d\ude00\ude00"`,
		"[", "]", "[1", "[1,", "[1,]", "[,]", "[,1]", "[1,,2]", "[1 2]", "[1]]", "[1}", "[1:2]", "[nulltrue]", "(1)",
		"{", "}", "{1:2}", "{null:1}", "{a:1}", `{"a"}`, `{"a":}`, `{"a":1`, `{"a":1,}`, `{"a":1,"b"}`, `{,}`, `{,"a":1}`, `{"a" 1}`, `{"a"::1}`, `{"a":1 "b":2}`, `{"a":1;"b":2}`, `{"a":1]`, `{"a":1}}`, `{["a"]:1}`, `{"a",1}`, `{"\ud800":1}`,
		strings.Repeat("[", api.MaxText), strings.Repeat(" ", api.MaxText), strings.Repeat(`{"":`, api.MaxText/4), strings.Repeat("9", api.MaxText),
	} {
		if v, errno := text.Parse(s); errno != api.ErrText || !isZero(v) {
			t.Errorf("P3: Parse(%.100q) = %.200v, %d, want %d", s, v, errno, api.ErrText)
		}
	}
}

// TestParseTellsTheFirstError: ErrLong, ErrText, ErrDeep, ErrTwice, in this order, wherever in the text they stand.
func TestParseTellsTheFirstError(t *testing.T) {
	twice := `{"a":1,"a":2}`
	for s, want := range map[string]api.Errno{
		strings.Repeat(" ", api.MaxText) + "1":                     api.ErrLong,
		strings.Repeat("1", api.MaxText+1):                         api.ErrLong,
		strings.Repeat("[", api.MaxText+1):                         api.ErrLong,
		brackets(api.MaxText/2+1, ""):                              api.ErrLong,
		brackets(api.MaxText/2, ""):                                api.ErrDeep,
		brackets(13, "") + "]":                                     api.ErrText,
		"[" + brackets(13, "") + ",01]":                            api.ErrText,
		"[" + twice + ",]":                                         api.ErrText,
		twice + "x":                                                api.ErrText,
		brackets(13, ""):                                           api.ErrDeep,
		brackets(13, "1"):                                          api.ErrDeep,
		brackets(12, "{}"):                                         api.ErrDeep,
		strings.Repeat(`{"":`, 13) + "1" + strings.Repeat("}", 13): api.ErrDeep,
		"[1," + brackets(12, "") + ",1]":                           api.ErrDeep,
		brackets(12, twice):                                        api.ErrDeep,
		"[" + twice + "," + brackets(12, "") + "]":                 api.ErrDeep,
		brackets(11, twice):                                        api.ErrTwice,
		twice:                                                      api.ErrTwice,
		`{"a":1,"b":2,"a":1}`:                                      api.ErrTwice,
		`{"":1,"":1}`:                                              api.ErrTwice,
		`{"a":1,"\u0061":1}`:                                       api.ErrTwice,
		`{"é":1,"\u00e9":1}`:                                       api.ErrTwice,
		`{"x":{"b":{"a":1,"a":1}}}`:                                api.ErrTwice,
		`[1,[{}],{"a":{"b":1},"b":{"b":1},"a":{"b":1}}]`:           api.ErrTwice,
	} {
		if v, errno := text.Parse(s); errno != want || !isZero(v) {
			t.Errorf("P1, P3: Parse(%.100q) = %.200v, %d, want %d", s, v, errno, want)
		}
	}
}

// TestParseAgreesWithAnotherParser changes a text at each place in each way, and holds Parse against the library's reading.
func TestParseAgreesWithAnotherParser(t *testing.T) {
	good := ` {"a" : [ 1 ,-20,0, "é\u00e9\ud83d\ude00\n\"\\\/" ],"b":{"":null,"c":[true,false,[]],"d":{}}}` + "\t"
	for _, s := range changed(good) {
		want, wantErrno := readByLibrary(s)
		if v, errno := text.Parse(s); errno != wantErrno || !same(v, want) {
			t.Errorf("P3: Parse(%q) = %v, %d, want %v, %d", s, v, errno, want, wantErrno)
		}
	}
}

// readByLibrary reads a text that is not too deep. The library takes more than P3 does: fractions and numbers of any size, and bytes and escapes that are no rune, for which it sets the rune fffd.
func readByLibrary(s string) (api.Value, api.Errno) {
	if !json.Valid([]byte(s)) || !utf8.ValidString(s) {
		return api.Value{}, api.ErrText
	}
	d := json.NewDecoder(strings.NewReader(s))
	d.UseNumber()
	errno := api.OK
	v := readToken(d, &errno)
	if errno != api.OK {
		return api.Value{}, errno
	}
	return v, api.OK
}

func readToken(d *json.Decoder, errno *api.Errno) api.Value {
	token, _ := d.Token()
	switch x := token.(type) {
	case bool:
		if x {
			return truth(1)
		}
		return truth(0)
	case json.Number:
		n, err := strconv.ParseInt(x.String(), 10, 64)
		if err != nil {
			*errno = api.ErrText
		}
		return number(n)
	case string:
		if strings.ContainsRune(x, utf8.RuneError) {
			*errno = api.ErrText
		}
		return word(x)
	case json.Delim:
		return readEntries(d, x == '{', errno)
	}
	return null()
}

func readEntries(d *json.Decoder, named bool, errno *api.Errno) api.Value {
	v := list()
	if named {
		v = object()
	}
	for d.More() {
		if named {
			name := readToken(d, errno).S
			for _, other := range v.K {
				if other == name && *errno == api.OK {
					*errno = api.ErrTwice
				}
			}
			v.K = append(v.K, name)
		}
		v.L = append(v.L, readToken(d, errno))
	}
	d.Token()
	return v
}
