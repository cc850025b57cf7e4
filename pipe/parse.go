package pipe

import (
	"slices"

	"sheaf/api"
	"sheaf/document"
	"sheaf/expr"
	"sheaf/filter"
	"sheaf/path"
	"sheaf/query"
	"sheaf/refusal"
)

func need(ok bool) { refusal.Unless(ok, api.ErrPipe) }

func parsePipeline(v api.Value) Pipeline {
	need(v.Kind == api.List && len(v.L) <= api.MaxStages)
	var p Pipeline
	for _, s := range v.L {
		p = append(p, parseStage(s))
	}
	return p
}

func parseStage(v api.Value) stage {
	operator, inner := parseOperation(v)
	switch operator {
	case "$match":
		return match{parseFilter(inner)}
	case "$project":
		return parseProject(inner)
	case "$unwind":
		need(inner.Kind == api.Text)
		return unwind{Path: parsePath(inner.S)}
	case "$group":
		return parseGroup(inner)
	case "$sort":
		return parseOrdering(inner)
	case "$skip":
		return skip{parseCount(inner)}
	case "$limit":
		return limit{parseCount(inner)}
	}
	panic(refusal.Error(api.ErrPipe))
}

// parseOperation reads an operator, and what it works on.
func parseOperation(v api.Value) (string, api.Value) {
	operator, inner, ok := query.OnlyEntry(v)
	need(ok)
	return operator, inner
}

// parseFilter tells a wrong filter by the error of pipelines: it is a part of
// one here.
func parseFilter(v api.Value) filter.Filter {
	f, errno := filter.Parse(v)
	need(errno == api.OK)
	return f
}

func parseExpr(v api.Value) expr.Expr {
	e, errno := expr.Parse(v)
	need(errno == api.OK)
	return e
}

func parsePath(s string) path.Path {
	p, ok := path.Parse(s)
	need(ok)
	return p
}

func parseCount(v api.Value) count {
	need(v.Kind == api.Number && v.N >= 0)
	return count{v.N}
}

func parseProject(v api.Value) project {
	need(v.Kind == api.Object && len(v.K) > 0)
	p := project{names: v.K}
	for i, name := range v.K {
		need(!query.IsOperator(name))
		p.values = append(p.values, parseExpr(v.L[i]))
	}
	return p
}

func parseOrdering(v api.Value) ordering {
	need(v.Kind == api.Object && len(v.K) > 0)
	var o ordering
	for i, name := range v.K {
		direction := v.L[i]
		need(direction.Kind == api.Number && (direction.N == 1 || direction.N == -1))
		o = append(o, key{Path: parsePath(name), direction: int(direction.N)})
	}
	return o
}

func parseGroup(v api.Value) group {
	need(v.Kind == api.Object && len(v.K) == 2)
	by, made := slices.Index(v.K, "by"), slices.Index(v.K, "make")
	need(by >= 0 && made >= 0)
	names := slices.Concat([]string{document.IDName}, v.L[made].K)
	return group{names: names, by: parseExpr(v.L[by]), entries: parseEntries(v.L[made])}
}

func parseEntries(v api.Value) []entry {
	need(v.Kind == api.Object)
	var entries []entry
	for i, name := range v.K {
		need(name != document.IDName && !query.IsOperator(name))
		entries = append(entries, parseEntry(v.L[i]))
	}
	return entries
}

// parseEntry takes counting for what it comes to: a sum of ones.
func parseEntry(v api.Value) entry {
	operator, inner := parseOperation(v)
	switch operator {
	case "$sum", "$min", "$max", "$first", "$last", "$list":
		return entry{operator: operator, value: parseExpr(inner)}
	case "$count":
		need(inner.Kind == api.Null)
		return entry{operator: "$sum", value: parseExpr(api.Value{Kind: api.Number, N: 1})}
	}
	panic(refusal.Error(api.ErrPipe))
}
