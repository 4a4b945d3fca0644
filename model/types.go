package model

import (
	"slices"

	"tariff/api"
	"tariff/check"
	"tariff/expr"
	"tariff/kind"
)

// meets tells whether two types meet, as layer 13 says it: one of them takes all that the other does.
func meets(a, b api.Type) bool {
	under, _ := kind.Under(a, b)
	over, _ := kind.Under(b, a)
	return under || over
}

// literalsFit tells whether what items allow, and the values of columns, fit the types that they are for.
func literalsFit(m api.Model) bool {
	fit := func(c api.Column) bool {
		return all(c.Values, func(s string) bool { return plainFit(s, typeOf(m, c.Item)) })
	}
	return all(m.Items, func(i api.Item) bool { return i.Allowed == "" || plainFit(i.Allowed, i.Type) }) &&
		all(m.Decisions, func(d api.Decision) bool { return all(d.Table.Outs, fit) })
}

// plainFit tells whether tests without names fit a type. A literal is the test that equals it,
// which fits if the types meet.
func plainFit(s string, t api.Type) bool {
	return scope(nil).tests(s, t) == api.OK
}

// scope is the names that expressions may use. Their texts are canonical here.
type scope []api.Sym

// tests is the error of unary tests that are to fit a type.
func (names scope) tests(s string, of api.Type) api.Errno {
	nodes, _ := expr.Tests(s)
	return check.Tests(nodes, of, names)
}

// expression is the error of an expression whose type is to meet one.
func (names scope) expression(s string, want api.Type) api.Errno {
	nodes, _ := expr.Parse(s)
	t, e := check.Expr(nodes, names)
	if e == api.OK && !meets(t, want) {
		return api.ErrType
	}
	return e
}

// eachTests is the first error of unary tests that are to fit a type each.
func (names scope) eachTests(list []string, of []api.Type) api.Errno {
	for i, s := range list {
		if e := names.tests(s, of[i]); e != api.OK {
			return e
		}
	}
	return api.OK
}

// each is the first error of expressions whose types are to meet one each.
func (names scope) each(list []string, want []api.Type) api.Errno {
	for i, s := range list {
		if e := names.expression(s, want[i]); e != api.OK {
			return e
		}
	}
	return api.OK
}

// checkDecision is the first error among the types of a decision.
func checkDecision(m api.Model, d api.Decision) api.Errno {
	names, own := scope(scopeOf(m, d)), typeOf(m, d.Item)
	if d.Text != "" {
		return names.expression(d.Text, own)
	}
	ins, outs := columnTypes(m, d.Table.Ins), columnTypes(m, d.Table.Outs)
	if e := names.table(d.Table, ins, outs); e != api.OK {
		return e
	}
	if e := policyError(d.Table, outs); e != api.OK {
		return e
	}
	if !meets(tableType(d.Table.Policy, outs), own) {
		return api.ErrType
	}
	return api.OK
}

// columnTypes is the types of columns.
func columnTypes(m api.Model, columns []api.Column) []api.Type {
	var list []api.Type
	for _, c := range columns {
		list = append(list, typeOf(m, c.Item))
	}
	return list
}

// table is the first error of what stands in a table with columns of these types.
func (names scope) table(t api.Table, ins, outs []api.Type) api.Errno {
	if e := names.each(texts(t.Ins), ins); e != api.OK {
		return e
	}
	for _, r := range t.Rules {
		if e := names.eachTests(r.Tests, ins); e != api.OK {
			return e
		}
		if e := names.each(r.Says, outs); e != api.OK {
			return e
		}
	}
	return names.each(t.Default, outs)
}

// policyError is the error of outputs of these types that a table's policy can do nothing with.
func policyError(t api.Table, outs []api.Type) api.Errno {
	hasValues := func(c api.Column) bool { return len(c.Values) > 0 }
	switch t.Policy {
	case api.Priority, api.OutOrder:
		if !slices.ContainsFunc(t.Outs, hasValues) {
			return api.ErrMiss
		}
	case api.CollectSum, api.CollectMin, api.CollectMax:
		if len(outs) != 1 || !meets(outs[0], api.Type{Kind: api.Num}) {
			return api.ErrType
		}
	case api.CollectNum:
		if len(outs) != 1 {
			return api.ErrType
		}
	}
	return api.OK
}

// tableType is the type of what a policy makes of outputs of these types.
func tableType(policy int, outs []api.Type) api.Type {
	switch policy {
	case api.Unique, api.Any, api.Priority, api.First:
		if len(outs) == 1 {
			return outs[0]
		}
		return api.Type{}
	case api.RuleOrder, api.OutOrder, api.Collect:
		if of := (api.Type{Kind: api.List, Of: outs[0].Kind}); len(outs) == 1 && kind.Form(of) {
			return of
		}
		return api.Type{Kind: api.List}
	}
	return api.Type{Kind: api.Num}
}
