package text

import (
	"strconv"
	"strings"

	"sheaf/api"
)

const hexDigits = "0123456789abcdef"

func printValue(b *strings.Builder, v api.Value) {
	switch v.Kind {
	case api.Null:
		b.WriteString("null")
	case api.Bool:
		b.WriteString(strconv.FormatBool(v.N == 1))
	case api.Number:
		b.WriteString(strconv.FormatInt(v.N, 10))
	case api.Text:
		printText(b, v.S)
	case api.List:
		printList(b, v.L)
	case api.Object:
		printObject(b, v)
	}
}

func printList(b *strings.Builder, l []api.Value) {
	b.WriteByte('[')
	for i, v := range l {
		if i > 0 {
			b.WriteByte(',')
		}
		printValue(b, v)
	}
	b.WriteByte(']')
}

func printObject(b *strings.Builder, v api.Value) {
	b.WriteByte('{')
	for i, name := range v.K {
		if i > 0 {
			b.WriteByte(',')
		}
		printText(b, name)
		b.WriteByte(':')
		printValue(b, v.L[i])
	}
	b.WriteByte('}')
}

// printText goes by bytes: all that it escapes is one byte of UTF-8, and such
// a byte is never a part of another rune.
func printText(b *strings.Builder, s string) {
	b.WriteByte('"')
	for i := range len(s) {
		c := s[i]
		switch {
		case c == '"' || c == '\\':
			b.WriteByte('\\')
			b.WriteByte(c)
		case c < 32:
			b.WriteString(`\u00`)
			b.WriteByte(hexDigits[c>>4])
			b.WriteByte(hexDigits[c&15])
		default:
			b.WriteByte(c)
		}
	}
	b.WriteByte('"')
}
