package pipe_test

import (
	"math/rand"
	"slices"
	"strconv"
	"strings"
	"testing"

	"sheaf/api"
	"sheaf/pipe"
	"sheaf/text"
)

// Random pipelines and documents, on which the program has to agree with the second reading.

// chance makes documents in which the names n, s, l and o are a Number, a Text, a List and an Object more often than not, and pipelines that lean on that.
type chance struct{ *rand.Rand }

func (c chance) pick(all ...string) string { return all[c.Intn(len(all))] }

// rarely is for what has to be wrong, or strange, now and then: not all too often, or nothing ever comes to the last of many documents.
func (c chance) rarely() bool { return c.Intn(100) == 0 }

func (c chance) several(n int, one func() string) string {
	var l []string
	for range n {
		l = append(l, one())
	}
	return strings.Join(l, ",")
}

// entries are those of n of the names, of each just one.
func (c chance) entries(n int, names []string, value func(name string) string) string {
	var l []string
	for _, i := range c.Perm(len(names))[:n] {
		l = append(l, strconv.Quote(names[i])+":"+value(names[i]))
	}
	return "{" + strings.Join(l, ",") + "}"
}

func (c chance) number() string {
	if c.Intn(6) == 0 {
		return c.pick("9223372036854775807", "-9223372036854775808", "4611686018427387904", "3037000500", "-4294967296")
	}
	return c.pick("-1", "0", "1", "2", "3")
}

func (c chance) text() string {
	if c.Intn(15) == 0 {
		return `"` + strings.Repeat(c.pick("x", "y"), c.Intn(900)) + `"`
	}
	return c.pick(`""`, `"a"`, `"b"`, `"ab"`)
}

func (c chance) list() string {
	if c.rarely() {
		n := c.Intn(12)
		return strings.Repeat("[", n) + "[]" + strings.Repeat("]", n)
	}
	return "[" + c.several(c.Intn(8), func() string { return c.pick(c.number(), c.number(), c.text(), "[1,[2]]") }) + "]"
}

func (c chance) object() string {
	return c.entries(c.Intn(4), []string{"n", "s", "l", "0"}, func(name string) string { return c.named(name) })
}

// named is a value as the name lets one expect it.
func (c chance) named(name string) string {
	if c.rarely() {
		name = c.pick("n", "s", "l", "o", "x")
	}
	switch name {
	case "n", "0":
		return c.number()
	case "s":
		return c.text()
	case "l":
		return c.list()
	case "o":
		return c.object()
	}
	return c.pick("null", "true", "false", "1")
}

func (c chance) doc() string {
	if c.rarely() {
		return c.entries(c.Intn(7), []string{"n", "s", "l", "o", "x", "$n"}, c.named)
	}
	return c.entries(4, []string{"n", "s", "l", "o"}, c.named)
}

func (c chance) path(last string) string {
	switch {
	case c.rarely():
		return c.pick("", ".", "n.", "l..0", "x.y", "$n", "l.01")
	case c.Intn(4) == 0:
		return "o." + last
	case c.Intn(6) == 0:
		return "l." + c.pick("0", "1")
	}
	return last
}

// expr is an expression whose value is as the name lets one expect it.
func (c chance) expr(name string, deep int) string {
	if c.rarely() {
		return c.pick("[]", "{}", `"$"`, `{"$foo":1}`, `{"a":1}`, `{"$add":[1]}`, `{"$join":[]}`, `{"$lit":1,"$size":"$l"}`, `{"$lit":{}}`, `"$x"`, "null", "true")
	}
	inner := func(name string) func() string { return func() string { return c.expr(name, deep-1) } }
	if deep == 0 {
		return c.plain(name)
	}
	if c.Intn(5) == 0 {
		return `{"$if":[` + c.filter() + `,` + c.several(2, inner(name)) + `]}`
	}
	switch {
	case name == "n" && c.Intn(3) > 0:
		return `{"` + c.pick("$add", "$sub", "$mul") + `":[` + c.several(2, inner("n")) + `]}`
	case name == "n" && c.Intn(2) > 0:
		return `{"$size":` + c.expr("l", deep-1) + `}`
	case name == "s" && c.Intn(2) > 0:
		return `{"$join":[` + c.several(1+c.Intn(3), inner("s")) + `]}`
	}
	return c.plain(name)
}

func (c chance) plain(name string) string {
	switch {
	case c.Intn(3) > 0:
		return `"$` + c.path(name) + `"`
	case name == "n" || name == "s":
		return c.named(name)
	}
	return `{"$lit":` + c.named(name) + `}`
}

func (c chance) filter() string {
	if c.rarely() {
		return c.pick("1", `{"$x":1}`, `{"n":{"$gt":1,"x":1}}`, `{"$and":[]}`)
	}
	return c.pick(`{}`, `{"n":{"$gt":0}}`, `{"s":"a"}`, `{"s":{"$kind":4}}`, `{"l":{"$size":2}}`, `{"$nor":[{"n":{"$lte":1}}]}`, `{"o.n":{"$exists":true}}`, `{"l.0":{"$ne":1}}`, `{"l":{"$any":{"$gt":1}}}`)
}

func (c chance) makes() string {
	names := []string{"n", "s", "l", "o", "x"}
	if c.rarely() {
		names = []string{"_id", "$a", "", "n.s", "l"}
	}
	return c.entries(c.Intn(5), names, func(name string) string {
		switch n := c.Intn(5); {
		case c.rarely():
			return c.pick("1", "{}", `{"$count":1}`, `{"$avg":1}`, `{"$sum":1,"$min":1}`, `{"sum":1}`)
		case n == 0:
			return `{"$count":null}`
		case n == 1:
			return `{"$list":` + c.expr(c.pick("n", "s", "l"), 1) + `}`
		case n == 2:
			return `{"$sum":` + c.expr("n", 1) + `}`
		}
		return `{"` + c.pick("$min", "$max", "$first", "$last") + `":` + c.expr(c.pick("n", "s", "l", name), 1) + `}`
	})
}

func (c chance) stage() string {
	names := []string{"n", "s", "l", "o", "x"}
	switch c.Intn(12) {
	case 0, 1:
		return `{"$match":` + c.filter() + `}`
	case 2, 3, 4:
		if c.rarely() {
			names[0] = c.pick("", "$n", "_id", "n.s")
		}
		return `{"$project":` + c.entries(1+c.Intn(5), names, func(name string) string { return c.expr(name, 2) }) + `}`
	case 5, 6:
		return `{"$unwind":"` + c.path("l") + `"}`
	case 7, 8:
		by, made := `"by":`+c.expr(c.pick("n", "s", "l"), 1), `"make":`+c.makes()
		if c.Intn(2) == 0 {
			by, made = made, by
		}
		return `{"$group":{` + by + `,` + made + `}}`
	case 9:
		return `{"$sort":` + c.entries(1+c.Intn(3), []string{"n", "s", "l", "o.n", "l.0", "$n"}, func(string) string {
			if c.rarely() {
				return c.pick("0", "2", "true")
			}
			return c.pick("1", "-1")
		}) + `}`
	case 10:
		return `{"$skip":` + c.pick("0", "1", "2", "50", "9223372036854775807") + `}`
	}
	if c.rarely() {
		return c.pick("1", "{}", `{"$limit":-1}`, `{"$limit":1,"$skip":1}`, `{"$foo":1}`, `{"$limit":null}`)
	}
	return `{"$limit":` + c.pick("0", "3", "20", "51") + `}`
}

// docs may be none, few, or as many as a collection has.
func (c chance) docs() []api.Value {
	n := c.Intn(8)
	if c.Intn(5) == 0 {
		n = 50 + c.Intn(11)
	}
	var l []api.Value
	for range n {
		if v, errno := text.Parse(c.doc()); errno == api.OK && !isBig(v) {
			l = append(l, v)
		}
	}
	return l
}

// pipeline is one that can be read as a value, at the least.
func (c chance) pipeline(stages int) (string, api.Value) {
	for {
		written := "[" + c.several(stages, c.stage) + "]"
		if v, errno := text.Parse(written); errno == api.OK {
			return written, v
		}
	}
}

// same tells whether two answers are, byte for byte.
func same(t *testing.T, a []api.Value, at pipe.Fault, b []api.Value, atB pipe.Fault) bool {
	return at == atB && slices.Equal(printed(t, a), printed(t, b))
}

func TestPipelinesAgreeWithASecondReading(t *testing.T) {
	c := chance{rand.New(rand.NewSource(10))}
	seen := map[api.Errno]int{}
	come := 0
	for range 20000 {
		written, v := c.pipeline(c.Intn(5))
		p, errno := pipe.Parse(v)
		if (errno == api.OK) != isPipeline(v) || errno != api.OK && errno != api.ErrPipe {
			t.Fatalf("P10: Parse(%s) = %d", written, errno)
		}
		if errno != api.OK {
			seen[errno]++
			continue
		}
		docs := c.docs()
		before := printed(t, docs)
		want, due := second(v, docs)
		got, fault := p.Run(docs)
		if !same(t, got, fault, want, due) {
			t.Fatalf("P10: %s of %q = %q, %v, want %q, %v", written, before, printed(t, got), fault, printed(t, want), due)
		}
		if !slices.Equal(before, printed(t, docs)) {
			t.Fatalf("P2: %s has written into %q", written, before)
		}
		seen[fault.Errno]++
		come += len(got)
	}
	for _, errno := range []api.Errno{api.OK, api.ErrPipe, api.ErrType, api.ErrOver, api.ErrBig, api.ErrFull} {
		if seen[errno] < 20 {
			t.Errorf("answer %d came %d times only", errno, seen[errno])
		}
	}
	t.Logf("%v; %d documents came out", seen, come)
}

// TestPipelinesGoInPieces: two pipelines, one behind the other, do what they do as one.
func TestPipelinesGoInPieces(t *testing.T) {
	c := chance{rand.New(rand.NewSource(14))}
	whole := 0
	for range 10000 {
		first, v := c.pipeline(c.Intn(4))
		then, w := c.pipeline(c.Intn(4))
		a, errnoA := pipe.Parse(v)
		b, errnoB := pipe.Parse(w)
		both, errno := pipe.Parse(api.Value{Kind: api.List, L: slices.Concat(v.L, w.L)})
		if (errno == api.OK) != (errnoA == api.OK && errnoB == api.OK) {
			t.Fatalf("P14: %s = %d, %s = %d, both = %d", first, errnoA, then, errnoB, errno)
		}
		if errno != api.OK {
			continue
		}
		docs := c.docs()
		want, due := both.Run(docs)
		got, fault := a.Run(docs)
		if fault.Errno == api.OK {
			got, fault = b.Run(got)
			if fault.Errno != api.OK {
				fault.Stage += len(a)
			} else {
				whole++
			}
		}
		if !same(t, got, fault, want, due) {
			t.Fatalf("P14: %s and %s = %q, %v, both %q, %v", first, then, printed(t, got), fault, printed(t, want), due)
		}
	}
	if whole < 1000 {
		t.Errorf("only %d went through", whole)
	}
}

// TestNoDocumentNoError: a stage that would fail at a document does not, if no document comes to it.
func TestNoDocumentNoError(t *testing.T) {
	c := chance{rand.New(rand.NewSource(15))}
	for range 5000 {
		written, v := c.pipeline(1 + c.Intn(4))
		p, errno := pipe.Parse(v)
		if errno != api.OK {
			continue
		}
		if got, fault := p.Run(nil); len(got) != 0 || fault != (pipe.Fault{}) {
			t.Fatalf("P14: %s of nothing = %q, %v", written, printed(t, got), fault)
		}
	}
}

// TestSortingLeavesTheSameDocuments: the same, each as often, whatever the order.
func TestSortingLeavesTheSameDocuments(t *testing.T) {
	c := chance{rand.New(rand.NewSource(16))}
	for range 2000 {
		docs := c.docs()
		got, fault := parsed(t, `[{"$sort":`+c.entries(1+c.Intn(3), []string{"n", "s", "l", "o.n", "l.0", "x"}, func(string) string { return c.pick("1", "-1") })+`}]`).Run(docs)
		before, after := printed(t, docs), printed(t, got)
		slices.Sort(before)
		slices.Sort(after)
		if !slices.Equal(before, after) || fault != (pipe.Fault{}) {
			t.Fatalf("P14: %q sorted: %q, %v", before, after, fault)
		}
	}
}
