package expr

import (
	"sheaf/api"
	"sheaf/filter"
	"sheaf/number"
	"sheaf/path"
	"sheaf/query"
	"sheaf/refusal"
)

func need(ok bool) { refusal.Unless(ok, api.ErrPipe) }

func parseExpr(v api.Value) Expr {
	switch v.Kind {
	case api.Null, api.Bool, api.Number:
		return itself{v}
	case api.Text:
		return parseText(v)
	}
	operator, inner, ok := query.OnlyEntry(v)
	need(ok)
	return parseOperation(operator, inner)
}

func parseText(v api.Value) Expr {
	if !query.IsOperator(v.S) {
		return itself{v}
	}
	p, ok := path.Parse(v.S[1:])
	need(ok)
	return found{p}
}

func parseOperation(operator string, v api.Value) Expr {
	switch operator {
	case "$lit":
		return itself{v}
	case "$add":
		return arithmetic{parseTwo(v), number.Add}
	case "$sub":
		return arithmetic{parseTwo(v), number.Sub}
	case "$mul":
		return arithmetic{parseTwo(v), number.Mul}
	case "$join":
		need(v.Kind == api.List && len(v.L) > 0)
		return joined{operands{api.Text, parseAll(v.L)}}
	case "$size":
		return length{operands{api.List, List{parseExpr(v)}}}
	case "$if":
		return parseChoice(v)
	}
	panic(refusal.Error(api.ErrPipe))
}

func parseTwo(v api.Value) operands {
	need(v.Kind == api.List && len(v.L) == 2)
	return operands{api.Number, parseAll(v.L)}
}

func parseAll(l []api.Value) List {
	var all List
	for _, v := range l {
		all = append(all, parseExpr(v))
	}
	return all
}

// parseChoice tells a wrong filter by the error of expressions: it is a part
// of one here.
func parseChoice(v api.Value) Expr {
	need(v.Kind == api.List && len(v.L) == 3)
	f, errno := filter.Parse(v.L[0])
	need(errno == api.OK)
	return choice{filter: f, then: parseExpr(v.L[1]), otherwise: parseExpr(v.L[2])}
}
