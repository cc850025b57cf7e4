package pipe_test

import (
	"fmt"
	"math/big"
	"regexp"
	"strconv"
	"strings"

	"sheaf/api"
	"sheaf/filter"
	"sheaf/order"
	"sheaf/pipe"
)

// A second reading of P10 to P13, straight along their words.

func isPipeline(v api.Value) bool {
	if v.Kind != api.List || len(v.L) > 8 {
		return false
	}
	for _, s := range v.L {
		if s.Kind != api.Object || len(s.K) != 1 || !isStage(s.K[0], s.L[0]) {
			return false
		}
	}
	return true
}

func isFilter(v api.Value) bool { _, errno := filter.Parse(v); return errno == api.OK }

var steps = regexp.MustCompile(`^[^.]+(\.[^.]+)*$`)

func isPath(s string) bool { return steps.MatchString(s) }

func isStage(name string, v api.Value) bool {
	switch name {
	case "$match":
		return isFilter(v)
	case "$unwind":
		return v.Kind == api.Text && isPath(v.S)
	case "$skip", "$limit":
		return v.Kind == api.Number && v.N >= 0
	case "$project":
		return v.Kind == api.Object && len(v.K) >= 1 && allEntries(v, func(name string) bool { return !strings.HasPrefix(name, "$") }, isExpr)
	case "$sort":
		return v.Kind == api.Object && len(v.K) >= 1 && allEntries(v, isPath, func(e api.Value) bool { return e.Kind == api.Number && e.N*e.N == 1 })
	case "$group":
		return v.Kind == api.Object && len(v.K) == 2 && (v.K[0] == "by" && v.K[1] == "make" && isExpr(v.L[0]) && isMake(v.L[1]) || v.K[0] == "make" && v.K[1] == "by" && isExpr(v.L[1]) && isMake(v.L[0]))
	}
	return false
}

func allEntries(v api.Value, name func(string) bool, inner func(api.Value) bool) bool {
	for i := range v.K {
		if !name(v.K[i]) || !inner(v.L[i]) {
			return false
		}
	}
	return true
}

func isMake(v api.Value) bool {
	for i, name := range v.K {
		e := v.L[i]
		if name == "_id" || strings.HasPrefix(name, "$") || e.Kind != api.Object || len(e.K) != 1 {
			return false
		}
		switch e.K[0] {
		case "$sum", "$min", "$max", "$first", "$last", "$list":
			if !isExpr(e.L[0]) {
				return false
			}
		case "$count":
			if e.L[0].Kind != api.Null {
				return false
			}
		default:
			return false
		}
	}
	return v.Kind == api.Object
}

func isExpr(v api.Value) bool {
	if v.Kind == api.Text && strings.HasPrefix(v.S, "$") {
		return isPath(strings.TrimPrefix(v.S, "$"))
	}
	if v.Kind < api.List {
		return true
	}
	if v.Kind == api.List || len(v.K) != 1 {
		return false
	}
	inner := v.L[0]
	exprs := 0
	for _, e := range inner.L {
		if isExpr(e) {
			exprs++
		}
	}
	list := inner.Kind == api.List
	switch v.K[0] {
	case "$lit":
		return true
	case "$add", "$sub", "$mul":
		return list && len(inner.L) == 2 && exprs == 2
	case "$join":
		return list && exprs > 0 && exprs == len(inner.L)
	case "$size":
		return isExpr(inner)
	case "$if":
		return list && len(inner.L) == 3 && isFilter(inner.L[0]) && isExpr(inner.L[1]) && isExpr(inner.L[2])
	}
	return false
}

// lead is where a path leads to: nil, if it is missing.
func lead(v *api.Value, path string) *api.Value {
	for _, step := range strings.Split(path, ".") {
		var next *api.Value
		for i := range v.L {
			if v.Kind == api.Object && v.K[i] == step || v.Kind == api.List && strconv.Itoa(i) == step {
				next = &v.L[i]
			}
		}
		if next == nil {
			return nil
		}
		v = next
	}
	return v
}

func holds(f, doc api.Value) bool { r, _ := filter.Parse(f); return r.Holds(doc) }

func null() api.Value { return api.Value{Kind: api.Null} }

func worked(e, doc api.Value) (api.Value, api.Errno) {
	if e.Kind == api.Text && strings.HasPrefix(e.S, "$") {
		if v := lead(&doc, e.S[1:]); v != nil {
			return *v, api.OK
		}
		return null(), api.OK
	}
	if e.Kind != api.Object {
		return e, api.OK
	}
	inner := e.L[0]
	switch e.K[0] {
	case "$lit":
		return inner, api.OK
	case "$if":
		if holds(inner.L[0], doc) {
			return worked(inner.L[1], doc)
		}
		return worked(inner.L[2], doc)
	case "$size":
		v, errno := worked(inner, doc)
		if errno == api.OK && v.Kind != api.List {
			errno = api.ErrType
		}
		return api.Value{Kind: api.Number, N: int64(len(v.L))}, errno
	}
	var all []api.Value
	for _, one := range inner.L {
		v, errno := worked(one, doc)
		if errno != api.OK {
			return v, errno
		}
		all = append(all, v)
	}
	if e.K[0] == "$join" {
		return joinAll(all)
	}
	return reckon(e.K[0], all[0], all[1])
}

func joinAll(all []api.Value) (api.Value, api.Errno) {
	s := ""
	for _, v := range all {
		if v.Kind != api.Text {
			return v, api.ErrType
		}
		s += v.S
	}
	return api.Value{Kind: api.Text, S: s}, api.OK
}

func reckon(operator string, a, b api.Value) (api.Value, api.Errno) {
	if a.Kind != api.Number || b.Kind != api.Number {
		return a, api.ErrType
	}
	x, y := big.NewInt(a.N), big.NewInt(b.N)
	switch operator {
	case "$add":
		x.Add(x, y)
	case "$sub":
		x.Sub(x, y)
	case "$mul":
		x.Mul(x, y)
	}
	if !x.IsInt64() {
		return a, api.ErrOver
	}
	return api.Value{Kind: api.Number, N: x.Int64()}, api.OK
}

func deepOf(v api.Value) int {
	if v.Kind < api.List {
		return 0
	}
	most := 0
	for _, inner := range v.L {
		most = max(most, deepOf(inner))
	}
	return most + 1
}

func bytesOf(v api.Value) int {
	n := []int{0, 1, 2, 9, 5, 5, 5}[v.Kind] + len(v.S)
	for i, inner := range v.L {
		n += bytesOf(inner)
		if v.Kind == api.Object {
			n += 2 + len(v.K[i])
		}
	}
	return n
}

func isBig(v api.Value) bool { return bytesOf(v) > 1000 || deepOf(v) > 12 }

// copied is a value that has no memory in common with v.
func copied(v api.Value) api.Value {
	w := api.Value{Kind: v.Kind, N: v.N, S: v.S, K: append([]string(nil), v.K...)}
	for _, inner := range v.L {
		w.L = append(w.L, copied(inner))
	}
	return w
}

// second does what a pipeline has to do.
func second(pipeline api.Value, docs []api.Value) ([]api.Value, pipe.Fault) {
	for n, stage := range pipeline.L {
		out, at, errno := secondStage(stage.K[0], stage.L[0], docs)
		if errno != api.OK {
			return nil, pipe.Fault{Stage: n, Doc: at, Errno: errno}
		}
		docs = out
	}
	return docs, pipe.Fault{}
}

func secondStage(name string, v api.Value, docs []api.Value) (out []api.Value, at int, errno api.Errno) {
	if name == "$group" {
		return secondGroup(*lead(&v, "by"), *lead(&v, "make"), docs)
	}
	for n, doc := range docs {
		switch name {
		case "$match":
			if holds(v, doc) {
				out = append(out, doc)
			}
		case "$skip":
			if int64(n) >= v.N {
				out = append(out, doc)
			}
		case "$limit":
			if int64(n) < v.N {
				out = append(out, doc)
			}
		case "$sort":
			place := len(out)
			for place > 0 && isAhead(v, doc, out[place-1]) {
				place--
			}
			out = append(out[:place:place], append([]api.Value{doc}, out[place:]...)...)
		case "$project":
			made := api.Value{Kind: api.Object, K: v.K}
			for _, e := range v.L {
				w, errno := worked(e, doc)
				if errno != api.OK {
					return nil, n, errno
				}
				made.L = append(made.L, w)
			}
			if isBig(made) {
				return nil, n, api.ErrBig
			}
			out = append(out, made)
		case "$unwind":
			list := lead(&doc, v.S)
			if list == nil || list.Kind != api.List {
				return nil, n, api.ErrType
			}
			for _, element := range list.L {
				made := copied(doc)
				*lead(&made, v.S) = element
				if isBig(made) {
					return nil, n, api.ErrBig
				}
				if len(out) == 200 {
					return nil, n, api.ErrFull
				}
				out = append(out, made)
			}
		}
	}
	return out, 0, api.OK
}

// isAhead tells whether a stands ahead of b, though it came later.
func isAhead(paths, a, b api.Value) bool {
	for i, p := range paths.K {
		x, y := null(), null()
		if v := lead(&a, p); v != nil {
			x = *v
		}
		if v := lead(&b, p); v != nil {
			y = *v
		}
		if c := int64(order.Compare(x, y)) * paths.L[i].N; c != 0 {
			return c < 0
		}
	}
	return false
}

// secondGroup has all values of an entry as a list, and makes of it what is asked for in the end; sums it makes again at each document, to see where they fail.
func secondGroup(by, made api.Value, docs []api.Value) (out []api.Value, at int, errno api.Errno) {
	lists, keys := map[string][]api.Value{}, []string{}
	bys := map[string]api.Value{}
	for n, doc := range docs {
		v, errno := worked(by, doc)
		if errno != api.OK {
			return nil, n, errno
		}
		key := fmt.Sprint(v)
		if _, there := bys[key]; !there {
			bys[key] = v
			keys = append(keys, key)
		}
		for i, e := range made.L {
			v, errno := worked(e.L[0], doc)
			if errno != api.OK {
				return nil, n, errno
			}
			place := key + " " + strconv.Itoa(i)
			lists[place] = append(lists[place], v)
			if _, errno := madeOf(e.K[0], lists[place]); errno != api.OK {
				return nil, n, errno
			}
		}
	}
	for n, key := range keys {
		object := api.Value{Kind: api.Object, K: append([]string{"_id"}, made.K...), L: []api.Value{bys[key]}}
		for i, e := range made.L {
			v, _ := madeOf(e.K[0], lists[key+" "+strconv.Itoa(i)])
			object.L = append(object.L, v)
		}
		if isBig(object) {
			return nil, n, api.ErrBig
		}
		out = append(out, object)
	}
	return out, 0, api.OK
}

func madeOf(operator string, l []api.Value) (api.Value, api.Errno) {
	switch operator {
	case "$count":
		return api.Value{Kind: api.Number, N: int64(len(l))}, api.OK
	case "$list":
		return api.Value{Kind: api.List, L: l}, api.OK
	case "$first":
		return l[0], api.OK
	case "$last":
		return l[len(l)-1], api.OK
	case "$sum":
		total := api.Value{Kind: api.Number}
		for _, v := range l {
			var errno api.Errno
			if total, errno = reckon("$add", total, v); errno != api.OK {
				return v, errno
			}
		}
		return total, api.OK
	}
	best := l[0]
	for _, v := range l {
		if c := order.Compare(v, best); c < 0 && operator == "$min" || c > 0 && operator == "$max" {
			best = v
		}
	}
	return best, api.OK
}
