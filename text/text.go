// Package text: values as texts, and as bytes: see DOC.md.
package text

import (
	"strings"

	"sheaf/api"
	"sheaf/order"
	"sheaf/refusal"
)

// Parse reads a value (P3).
func Parse(s string) (api.Value, api.Errno) {
	return refusal.Attempt(func() api.Value { return parseText(s) })
}

// Print writes a value (P4).
func Print(v api.Value) (string, api.Errno) {
	if !isValue(v) {
		return "", api.ErrValue
	}
	var b strings.Builder
	printValue(&b, v)
	return b.String(), api.OK
}

// Encode makes bytes of a value (P5).
func Encode(v api.Value) (string, api.Errno) {
	if !isValue(v) {
		return "", api.ErrValue
	}
	return string(appendValue(nil, v)), api.OK
}

// Decode makes a value of bytes (P5).
func Decode(s string) (api.Value, api.Errno) {
	return refusal.Attempt(func() api.Value { return parseBytes(s) })
}

// Compare tells which of two values is the greater one (P6).
func Compare(a api.Value, b api.Value) (int, api.Errno) {
	if !isValue(a) || !isValue(b) {
		return 0, api.ErrValue
	}
	return order.Compare(a, b), api.OK
}
