package text_test

import (
	"strings"
	"testing"

	"sheaf/api"
	"sheaf/text"
)

func TestEncodeAndDecode(t *testing.T) {
	for _, c := range []struct {
		v     api.Value
		bytes string
	}{
		{null(), "\x01"}, {truth(0), "\x02\x00"}, {truth(1), "\x02\x01"},
		{number(0), "\x03\x00\x00\x00\x00\x00\x00\x00\x00"}, {number(-1), "\x03\xff\xff\xff\xff\xff\xff\xff\xff"}, {number(-2), "\x03\xff\xff\xff\xff\xff\xff\xff\xfe"},
		{number(0x0102030405060708), "\x03\x01\x02\x03\x04\x05\x06\x07\x08"}, {number(1<<63 - 1), "\x03\x7f\xff\xff\xff\xff\xff\xff\xff"}, {number(-1 << 63), "\x03\x80\x00\x00\x00\x00\x00\x00\x00"},
		{word(""), "\x04\x00\x00\x00\x00"}, {word("é\x00"), "\x04\x00\x00\x00\x03\xc3\xa9\x00"}, {word(strings.Repeat("x", 300)), "\x04\x00\x00\x01\x2c" + strings.Repeat("x", 300)},
		{list(), "\x05\x00\x00\x00\x00"}, {list(truth(1)), "\x05\x00\x00\x00\x02\x02\x01"}, {list(null(), list(null())), "\x05\x00\x00\x00\x07\x01\x05\x00\x00\x00\x01\x01"},
		{times(65536, null()), "\x05\x00\x01\x00\x00" + strings.Repeat("\x01", 65536)},
		{object(), "\x06\x00\x00\x00\x00"}, {entry("a", number(-1)), "\x06\x00\x00\x00\x0c\x00\x01a\x03\xff\xff\xff\xff\xff\xff\xff\xff"},
		{object(entry("", list()), entry("é", entry("b", null()))), "\x06\x00\x00\x00\x14\x00\x00\x05\x00\x00\x00\x00\x00\x02\xc3\xa9\x06\x00\x00\x00\x04\x00\x01b\x01"},
		{entry(strings.Repeat("n", 300), null()), "\x06\x00\x00\x01\x2f\x01\x2c" + strings.Repeat("n", 300) + "\x01"},
	} {
		if s, errno := text.Encode(c.v); s != c.bytes || errno != api.OK {
			t.Errorf("P5: Encode(%.100v) = %.100q, %d, want %.100q", c.v, s, errno, c.bytes)
		}
		if v, errno := text.Decode(c.bytes); !same(v, c.v) || errno != api.OK {
			t.Errorf("P5: Decode(%.100q) = %.100v, %d, want %.100v", c.bytes, v, errno, c.v)
		}
	}
}

func TestDecodeIsTheWayBack(t *testing.T) {
	greatest := []api.Value{full(0), fullObject(0), times(api.MaxBytes-5, null()), within(12, null()), within(11, object()), word(strings.Repeat("x", api.MaxText)), entry(strings.Repeat("n", api.MaxText), null())}
	for _, v := range append(samples(), greatest...) {
		s := mustEncode(t, v)
		if back, errno := text.Decode(s); errno != api.OK || !same(back, v) {
			t.Errorf("P5: Decode(Encode(%.100v)) = %.100v, %d", v, back, errno)
		}
	}
	for _, v := range greatest[:3] {
		if s := mustEncode(t, v); len(s) != api.MaxBytes {
			t.Errorf("P5: Encode(%.100v) has %d bytes", v, len(s))
		}
	}
	for name, v := range fullOfKinds(0) {
		s := mustEncode(t, v)
		if back, errno := text.Decode(s); len(s) != api.MaxBytes || errno != api.OK || !same(back, v) {
			t.Errorf("P5: %s: %d bytes, Decode %d", name, len(s), errno)
		}
	}
}

// TestTheDocumentsLargeLists: the sizes that the section Examples tells.
func TestTheDocumentsLargeLists(t *testing.T) {
	long := word(strings.Repeat("x", 3500))
	if s, errno := text.Encode(times(299, long)); len(s) != 1048000 || errno != api.OK {
		t.Errorf("P5: 299 Texts: %d bytes, %d", len(s), errno)
	}
	if s, errno := text.Encode(times(300, long)); s != "" || errno != api.ErrValue {
		t.Errorf("P5: 300 Texts: %d bytes, %d", len(s), errno)
	}
}

func TestEncodeRefusesNoValue(t *testing.T) {
	for why, v := range noValues() {
		if s, errno := text.Encode(v); s != "" || errno != api.ErrValue {
			t.Errorf("P5: %s: Encode = %.100q, %d", why, s, errno)
		}
	}
}

func length(n int) string { return string([]byte{byte(n >> 24), byte(n >> 16), byte(n >> 8), byte(n)}) }

func bytesOfText(s string) string { return "\x04" + length(len(s)) + s }
func bytesOfList(s string) string { return "\x05" + length(len(s)) + s }

func bytesOfEntry(name, v string) string {
	return "\x06" + length(2+len(name)+len(v)) + length(len(name))[2:] + name + v
}

func TestDecodeRefusesOtherBytes(t *testing.T) {
	deep, deepObject := bytesOfList(""), bytesOfEntry("", "\x01")
	for range api.MaxDeep {
		deep, deepObject = bytesOfList(deep), bytesOfEntry("a", deepObject)
	}
	var bottomless strings.Builder
	for left := api.MaxBytes/5*5 - 5; left >= 0; left -= 5 {
		bottomless.WriteString("\x05" + length(left))
	}
	long := strings.Repeat("x", api.MaxText+1)
	for _, s := range []string{
		"", "\x00", "\x07", "\xff", "1", "null", "\x01\x01", "\x01\x00", "\x02", "\x02\x02", "\x02\xff", "\x02\x01\x00",
		"\x03", "\x03\x00\x00\x00\x00\x00\x00\x00", "\x03\x00\x00\x00\x00\x00\x00\x00\x00\x00",
		"\x04", "\x04\x00\x00\x00", "\x04\x00\x00\x00\x01", "\x04\x00\x00\x00\x01ab", "\x04\xff\xff\xff\xffa", "\x04\x80\x00\x00\x00", bytesOfText("\xff"), bytesOfText("\xed\xa0\x80"), bytesOfText("\xc0\x80"), bytesOfText("\xc3"), bytesOfText(long),
		"\x05", "\x05\x00\x00\x00", "\x05\x00\x00\x00\x01", "\x05\x00\x00\x00\x00\x01", "\x05\x00\x00\x00\x01\x01\x01", "\x05\x00\x00\x00\x01\x02\x01", "\x05\x00\x00\x00\x01\x00", "\x05\xff\xff\xff\xff\x01", bytesOfList("\x02"), bytesOfList("\x05\x00\x00\x00\x01") + "\x01",
		"\x06", "\x06\x00\x00\x00\x01\x00", "\x06\x00\x00\x00\x02\x00\x00", "\x06\x00\x00\x00\x03\x00\x01a", "\x06\x00\x00\x00\x03\x00\x02a", "\x06\x00\x00\x00\x03\x00\x01a\x01", "\x06\x00\x00\x00\x04\xff\xffa\x01", bytesOfEntry("\xff", "\x01"), bytesOfEntry("a", "\x00"), bytesOfEntry(long, "\x01"), bytesOfEntry("a", "\x01") + "\x01",
		"\x06" + length(8) + "\x00\x01a\x01\x00\x01a\x01", "\x06" + length(6) + "\x00\x00\x01\x00\x00\x01", bytesOfList("\x06" + length(8) + "\x00\x01a\x01\x00\x01a\x01"),
		deep, deepObject, bottomless.String(), strings.Repeat("\x05\xff\xff\xff\xff", 1000),
		bytesOfList(strings.Repeat("\x01", api.MaxBytes-4)), strings.Repeat("\x01", 2*api.MaxBytes),
	} {
		if v, errno := text.Decode(s); errno != api.ErrBytes || !isZero(v) {
			t.Errorf("P5: Decode(%.100q) = %.100v, %d", s, v, errno)
		}
	}
	if v, errno := text.Decode(deep[5:]); errno != api.OK || v.Kind != api.List {
		t.Errorf("P5: Decode of 12 lists = %v, %d", v, errno)
	}
}

// TestDecodeTakesNothingButBytesOfAValue changes bytes at each place: what is taken then must be encoded as it was.
func TestDecodeTakesNothingButBytesOfAValue(t *testing.T) {
	good := mustEncode(t, object(entry("a", list(number(1), truth(1), word("é"), list(), null())), entry("b", entry("", word("")))))
	for _, s := range changed(good) {
		v, errno := text.Decode(s)
		if errno == api.OK && mustEncode(t, v) != s || errno != api.OK && (errno != api.ErrBytes || !isZero(v)) {
			t.Errorf("P5: Decode(%q) = %v, %d", s, v, errno)
		}
	}
}
