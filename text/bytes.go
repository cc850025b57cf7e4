package text

import (
	"strings"

	"sheaf/api"
	"sheaf/refusal"
)

// How many bytes the numbers have that stand in the bytes of a value.
const (
	numberBytes     = 8
	lengthBytes     = 4
	nameLengthBytes = 2
)

func appendValue(b []byte, v api.Value) []byte {
	b = append(b, byte(v.Kind))
	switch v.Kind {
	case api.Bool:
		return append(b, byte(v.N))
	case api.Number:
		return appendNumber(b, uint64(v.N), numberBytes)
	case api.Text:
		return append(appendNumber(b, uint64(len(v.S)), lengthBytes), v.S...)
	case api.List, api.Object:
		return appendEntries(b, v)
	}
	return b
}

// appendEntries writes how many bytes the entries have once they are written:
// measuring them ahead would walk them again at each depth.
func appendEntries(b []byte, v api.Value) []byte {
	place := len(b)
	b = appendNumber(b, 0, lengthBytes)
	start := len(b)
	for i, inner := range v.L {
		if v.Kind == api.Object {
			b = appendNumber(b, uint64(len(v.K[i])), nameLengthBytes)
			b = append(b, v.K[i]...)
		}
		b = appendValue(b, inner)
	}
	copy(b[place:start], appendNumber(nil, uint64(len(b)-start), lengthBytes))
	return b
}

// appendNumber appends the lowest bytes of n, so many, the highest first.
func appendNumber(b []byte, n uint64, bytes int) []byte {
	for i := bytes - 1; i >= 0; i-- {
		b = append(b, byte(n>>(8*i)))
	}
	return b
}

// reader takes bytes off the front of what is left of them.
type reader struct{ left string }

// parseBytes leaves to isValue what the shape of the bytes does not tell, so
// that Decode and Encode can't differ in what a value is.
func parseBytes(s string) api.Value {
	if len(s) > api.MaxBytes {
		panic(refusal.Error(api.ErrBytes))
	}
	r := reader{left: s}
	v := r.value(0)
	if r.left != "" || !isValue(v) {
		panic(refusal.Error(api.ErrBytes))
	}
	return v
}

// value reads a value that lies within so many lists and objects.
func (r *reader) value(around int) api.Value {
	kind := int(r.number(1))
	switch kind {
	case api.Null:
		return api.Value{Kind: kind}
	case api.Bool:
		return api.Value{Kind: kind, N: int64(r.number(1))}
	case api.Number:
		return api.Value{Kind: kind, N: int64(r.number(numberBytes))}
	case api.Text:
		return api.Value{Kind: kind, S: r.text(lengthBytes)}
	case api.List, api.Object:
		return r.entries(kind, around+1)
	}
	panic(refusal.Error(api.ErrBytes))
}

// entries gives up at once where it is too deep: bytes may nest so far that
// walking to their ground would take a great stack.
func (r *reader) entries(kind int, deep int) api.Value {
	if deep > api.MaxDeep {
		panic(refusal.Error(api.ErrBytes))
	}
	v := api.Value{Kind: kind}
	inner := reader{left: r.take(r.number(lengthBytes))}
	for inner.left != "" {
		if kind == api.Object {
			v.K = append(v.K, inner.text(nameLengthBytes))
		}
		v.L = append(v.L, inner.value(deep))
	}
	return v
}

// text copies: an answer shares no memory with what was handed in.
func (r *reader) text(bytesOfLength uint64) string {
	return strings.Clone(r.take(r.number(bytesOfLength)))
}

func (r *reader) number(bytes uint64) uint64 {
	var n uint64
	for _, c := range []byte(r.take(bytes)) {
		n = n<<8 + uint64(c)
	}
	return n
}

func (r *reader) take(n uint64) string {
	if n > uint64(len(r.left)) {
		panic(refusal.Error(api.ErrBytes))
	}
	s := r.left[:n]
	r.left = r.left[n:]
	return s
}
