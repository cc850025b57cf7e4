package filter_test

import (
	"math/rand"
	"regexp"
	"slices"
	"strconv"
	"strings"
	"testing"

	"sheaf/api"
	"sheaf/filter"
	"sheaf/text"
)

// A second reading of P8, straight along its words, and random filters and documents on which both have to agree.

// isFilter and isTests: the words that say what may stand where.
func isFilter(v api.Value) bool {
	if v.Kind != api.Object {
		return false
	}
	for i, name := range v.K {
		inner := v.L[i]
		switch {
		case name == "$and" || name == "$or" || name == "$nor":
			if inner.Kind != api.List || len(inner.L) == 0 || slices.ContainsFunc(inner.L, func(f api.Value) bool { return !isFilter(f) }) {
				return false
			}
		case strings.HasPrefix(name, "$") || slices.Contains(strings.Split(name, "."), ""):
			return false
		case asksByTests(inner) && !isTests(inner):
			return false
		}
	}
	return true
}

func asksByTests(v api.Value) bool {
	return v.Kind == api.Object && len(v.K) > 0 && strings.HasPrefix(v.K[0], "$")
}

func isTests(v api.Value) bool {
	if v.Kind != api.Object || len(v.K) == 0 {
		return false
	}
	for i, name := range v.K {
		inner := v.L[i]
		ok := false
		switch name {
		case "$eq", "$ne", "$gt", "$gte", "$lt", "$lte":
			ok = true
		case "$in", "$nin":
			ok = inner.Kind == api.List
		case "$exists":
			ok = inner.Kind == api.Bool
		case "$size":
			ok = inner.Kind == api.Number && inner.N >= 0
		case "$kind":
			ok = inner.Kind == api.Number && inner.N >= 1 && inner.N <= 6
		case "$not", "$any":
			ok = isTests(inner)
		}
		if !ok {
			return false
		}
	}
	return true
}

var elementNumber = regexp.MustCompile(`^(0|[1-9][0-9]*)$`)

// lead is where a path leads to: nil, if it is missing.
func lead(v *api.Value, p string) *api.Value {
	step, rest, more := strings.Cut(p, ".")
	var next *api.Value
	for i := range v.L {
		isIt := v.Kind == api.Object && v.K[i] == step || v.Kind == api.List && elementNumber.MatchString(step) && strconv.Itoa(i) == step
		if isIt {
			next = &v.L[i]
		}
	}
	if next == nil || !more {
		return next
	}
	return lead(next, rest)
}

func equal(a, b api.Value) bool {
	s, _ := text.Print(a)
	r, _ := text.Print(b)
	return s == r
}

func filterHolds(f, doc api.Value) bool {
	for i, name := range f.K {
		inner, n := f.L[i], 0
		for _, one := range inner.L {
			if strings.HasPrefix(name, "$") && filterHolds(one, doc) {
				n++
			}
		}
		holds := false
		switch name {
		case "$and":
			holds = n == len(inner.L)
		case "$or":
			holds = n > 0
		case "$nor":
			holds = n == 0
		default:
			v := lead(&doc, name)
			if asksByTests(inner) {
				holds = testsHold(inner, v)
			} else {
				holds = v != nil && equal(*v, inner)
			}
		}
		if !holds {
			return false
		}
	}
	return true
}

func testsHold(tests api.Value, v *api.Value) bool {
	for i, name := range tests.K {
		if !testHolds(name, tests.L[i], v) {
			return false
		}
	}
	return true
}

func testHolds(name string, want api.Value, v *api.Value) bool {
	switch name {
	case "$eq":
		return v != nil && equal(*v, want)
	case "$ne":
		return !testHolds("$eq", want, v)
	case "$gt", "$gte", "$lt", "$lte":
		if v == nil || v.Kind != want.Kind {
			return false
		}
		n, _ := text.Compare(*v, want)
		return slices.Contains(map[string][]int{"$gt": {1}, "$gte": {0, 1}, "$lt": {-1}, "$lte": {-1, 0}}[name], n)
	case "$in":
		return slices.ContainsFunc(want.L, func(one api.Value) bool { return testHolds("$eq", one, v) })
	case "$nin":
		return !testHolds("$in", want, v)
	case "$exists":
		return (v != nil) == (want.N == 1)
	case "$size":
		return v != nil && v.Kind == api.List && strconv.Itoa(len(v.L)) == strconv.FormatInt(want.N, 10)
	case "$kind":
		return v != nil && int64(v.Kind) == want.N
	case "$not":
		return !testsHold(want, v)
	case "$any":
		if v == nil || v.Kind != api.List {
			return false
		}
		for i := range v.L {
			if testsHold(want, &v.L[i]) {
				return true
			}
		}
		return false
	}
	panic(name)
}

// maker makes random values out of few names and numbers, so that much is hit.
type maker struct{ *rand.Rand }

func (m maker) pick(all ...string) string { return all[m.Intn(len(all))] }

func (m maker) entries(n int, name func() string, v func(name string) string) string {
	seen, l := map[string]bool{}, []string{}
	for range n {
		if k := name(); !seen[k] {
			seen[k] = true
			l = append(l, strconv.Quote(k)+":"+v(k))
		}
	}
	return "{" + strings.Join(l, ",") + "}"
}

func (m maker) list(n int, one func() string) string {
	l := make([]string, n)
	for i := range l {
		l[i] = one()
	}
	return "[" + strings.Join(l, ",") + "]"
}

func (m maker) value(deep int) string {
	switch n := m.Intn(8); {
	case n < 2 && deep > 0:
		return m.list(m.Intn(4), func() string { return m.value(deep - 1) })
	case n < 4 && deep > 0:
		return m.entries(m.Intn(3), func() string { return m.pick("a", "b", "0", "1", "$eq", "$in", "") }, func(string) string { return m.value(deep - 1) })
	}
	return m.pick("null", "true", "false", "-1", "0", "1", "2", "6", "7", `""`, `"a"`, `"b"`)
}

func (m maker) doc() string {
	return m.entries(4, func() string { return m.pick("a", "b", "c", "0") }, func(string) string { return m.value(3) })
}

func (m maker) path() string {
	p := m.pick("a", "b", "c", "0")
	for m.Intn(2) == 0 {
		p += "." + m.pick("a", "b", "0", "1", "2", "01")
	}
	return p
}

// filter is right more often than not: now and then it takes a name or a value that may not stand there.
func (m maker) filter(deep int) string {
	if m.Intn(60) == 0 {
		return m.value(1)
	}
	name := func() string {
		if m.Intn(60) == 0 {
			return m.pick("", "a.", ".a", "$eq", "$a", "$")
		}
		if m.Intn(3) == 0 && deep > 0 {
			return m.pick("$and", "$or", "$nor")
		}
		return m.path()
	}
	return m.entries(m.Intn(3), name, func(name string) string {
		switch {
		case strings.HasPrefix(name, "$"):
			return m.list((m.Intn(9)+8)/8+m.Intn(2), func() string { return m.filter(deep - 1) })
		case m.Intn(4) == 0:
			return m.value(2)
		}
		return m.tests(deep)
	})
}

func (m maker) tests(deep int) string {
	if m.Intn(60) == 0 {
		return m.value(1)
	}
	name := func() string {
		if m.Intn(60) == 0 {
			return m.pick("", "a", "$and", "$or", "$foo", "$")
		}
		if m.Intn(3) == 0 && deep > 0 {
			return m.pick("$not", "$any")
		}
		return m.pick("$eq", "$ne", "$gt", "$gte", "$lt", "$lte", "$in", "$nin", "$exists", "$size", "$kind")
	}
	return m.entries(1+m.Intn(2), name, func(name string) string { return m.wanted(name, deep) })
}

func (m maker) wanted(name string, deep int) string {
	if m.Intn(60) == 0 {
		return m.value(1)
	}
	switch name {
	case "$in", "$nin":
		return m.list(m.Intn(4), func() string { return m.value(2) })
	case "$exists":
		return m.pick("true", "false")
	case "$size":
		return m.pick("0", "1", "2", "3")
	case "$kind":
		return m.pick("1", "2", "3", "4", "5", "6")
	case "$not", "$any":
		return m.tests(deep - 1)
	}
	return m.value(2)
}

func TestFiltersAgreeWithASecondReading(t *testing.T) {
	m := maker{rand.New(rand.NewSource(8))}
	right, wrong, held, not := 0, 0, 0, 0
	for range 20000 {
		written := m.filter(3)
		v, errno := text.Parse(written)
		if errno != api.OK { // too long or too deep
			continue
		}
		f, errno := filter.Parse(v)
		if (errno == api.OK) != isFilter(v) || errno != api.OK && errno != api.ErrFilter {
			t.Fatalf("P8: Parse(%s) = %d", written, errno)
		}
		if errno != api.OK {
			wrong++
			continue
		}
		right++
		for range 10 {
			doc := m.doc()
			d := value(t, doc)
			want := filterHolds(v, d)
			if got := f.Holds(d); got != want {
				t.Fatalf("P8: %s holds of %s: %t, want %t", written, doc, got, want)
			}
			if want {
				held++
			} else {
				not++
			}
		}
	}
	if right < 1000 || wrong < 1000 || held < 1000 || not < 1000 {
		t.Errorf("too few of a sort: %d right, %d wrong, %d held, %d not", right, wrong, held, not)
	}
	t.Logf("%d right, %d wrong, %d held, %d not", right, wrong, held, not)
}
