package filter

import (
	"sheaf/api"
	"sheaf/path"
	"sheaf/query"
	"sheaf/refusal"
)

func need(ok bool) { refusal.Unless(ok, api.ErrFilter) }

func parseFilter(v api.Value) Filter {
	need(v.Kind == api.Object)
	var f Filter
	for i, name := range v.K {
		f = append(f, parseCondition(name, v.L[i]))
	}
	return f
}

func parseCondition(name string, v api.Value) condition {
	switch name {
	case "$and":
		return allHold(parseFilters(v))
	case "$or":
		return oneHolds(parseFilters(v))
	case "$nor":
		return noneHold(parseFilters(v))
	}
	need(!query.IsOperator(name))
	p, ok := path.Parse(name)
	need(ok)
	return valueHas{path: p, tests: parseExpected(v)}
}

func parseFilters(v api.Value) []Filter {
	need(v.Kind == api.List && len(v.L) > 0)
	var l []Filter
	for _, inner := range v.L {
		l = append(l, parseFilter(inner))
	}
	return l
}

// parseExpected reads what stands behind a path: tests, or a value that is
// asked for as the test for an equal one would do.
func parseExpected(v api.Value) tests {
	if v.Kind == api.Object && len(v.K) > 0 && query.IsOperator(v.K[0]) {
		return parseTests(v)
	}
	return tests{{operator: "$eq", value: v}}
}

func parseTests(v api.Value) tests {
	need(v.Kind == api.Object && len(v.K) > 0)
	var l tests
	for i, name := range v.K {
		l = append(l, parseTest(name, v.L[i]))
	}
	return l
}

func parseTest(operator string, v api.Value) test {
	switch operator {
	case "$eq", "$ne", "$gt", "$gte", "$lt", "$lte":
	case "$in", "$nin":
		need(v.Kind == api.List)
	case "$exists":
		need(v.Kind == api.Bool)
	case "$size":
		need(v.Kind == api.Number && v.N >= 0)
	case "$kind":
		need(v.Kind == api.Number && v.N >= api.Null && v.N <= api.Object)
	case "$not", "$any":
		return test{operator: operator, inner: parseTests(v)}
	default:
		need(false)
	}
	return test{operator: operator, value: v}
}
