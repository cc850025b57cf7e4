package text

import (
	"unicode/utf8"

	"sheaf/api"
)

// checker counts down how many bytes (P5) a value may still have. What is
// handed in may share its lists, or lie within itself, and so be without
// bounds: each step takes at least a byte, so the walk ends all the same.
type checker struct{ left int }

func isValue(v api.Value) bool {
	c := checker{left: api.MaxBytes}
	return c.value(v, 0)
}

// value asks for one value that lies within so many lists and objects.
func (c *checker) value(v api.Value, around int) bool {
	switch v.Kind {
	case api.Null:
		return v.N == 0 && v.S == "" && hasNoLists(v) && c.take(1)
	case api.Bool:
		return (v.N == 0 || v.N == 1) && v.S == "" && hasNoLists(v) && c.take(2)
	case api.Number:
		return v.S == "" && hasNoLists(v) && c.take(9)
	case api.Text:
		return v.N == 0 && hasNoLists(v) && c.take(5) && c.text(v.S)
	case api.List:
		return v.N == 0 && v.S == "" && len(v.K) == 0 && around < api.MaxDeep && c.take(5) && c.values(v.L, around+1)
	case api.Object:
		return v.N == 0 && v.S == "" && len(v.K) == len(v.L) && around < api.MaxDeep && c.take(5) && c.names(v.K) && c.values(v.L, around+1)
	}
	return false
}

func hasNoLists(v api.Value) bool { return len(v.L) == 0 && len(v.K) == 0 }

func (c *checker) values(l []api.Value, around int) bool {
	for _, v := range l {
		if !c.value(v, around) {
			return false
		}
	}
	return true
}

func (c *checker) names(names []string) bool {
	for _, name := range names {
		if !c.take(2) || !c.text(name) {
			return false
		}
	}
	return areDifferent(names)
}

// text asks for the length first: a text that is too long is not walked.
func (c *checker) text(s string) bool {
	return len(s) <= api.MaxText && c.take(len(s)) && utf8.ValidString(s)
}

func (c *checker) take(n int) bool {
	c.left -= n
	return c.left >= 0
}

func areDifferent(names []string) bool {
	seen := make(map[string]struct{}, len(names))
	for _, name := range names {
		seen[name] = struct{}{}
	}
	return len(seen) == len(names)
}
