package model

import (
	"slices"

	"tariff/api"
	"tariff/chars"
	"tariff/expr"
	"tariff/kind"
	"tariff/show"
	"tariff/unary"
)

// inForm tells whether each part of a model is as it must be, whatever it is named and
// whatever its type is.
func inForm(m api.Model) bool {
	return chars.Name(m.Id) && len(m.Name) <= api.MaxText && chars.Valid(m.Name) &&
		all(m.Items, itemForm) && all(m.Inputs, inputForm) && all(m.Decisions, decisionForm)
}

func itemForm(i api.Item) bool {
	// Those that name a type would never be asked for.
	_, e := kind.Parse(i.Name)
	return chars.Name(i.Name) && e != api.OK && kind.Form(i.Type) &&
		(i.Allowed == "" || isTests(i.Allowed) && isPlain(i.Allowed))
}

func inputForm(i api.Input) bool {
	return chars.Name(i.Id) && chars.Name(i.Name)
}

func decisionForm(d api.Decision) bool {
	if !chars.Name(d.Id) || !chars.Name(d.Name) {
		return false
	}
	if d.Text != "" {
		return isExpression(d.Text) && sameTable(d.Table, api.Table{})
	}
	return tableForm(d.Table)
}

func tableForm(t api.Table) bool {
	ruleForm := func(r api.Rule) bool {
		return len(r.Tests) == len(t.Ins) && all(r.Tests, isTests) && len(r.Says) == len(t.Outs) && all(r.Says, isExpression)
	}
	return t.Policy >= api.Unique && t.Policy <= api.CollectNum &&
		all(t.Ins, inForTable) && outsForm(t.Outs) && all(t.Rules, ruleForm) &&
		(len(t.Default) == 0 || len(t.Default) == len(t.Outs)) && all(t.Default, isExpression)
}

func inForTable(c api.Column) bool {
	return isExpression(c.Text) && len(c.Values) == 0
}

func outsForm(outs []api.Column) bool {
	return len(outs) > 0 && all(outs, outForm) && !twice(texts(outs))
}

func outForm(c api.Column) bool {
	return chars.Name(c.Text) && all(c.Values, isLiteral) && !twice(c.Values)
}

// all tells whether something holds for each of some things.
func all[T any](things []T, holds func(T) bool) bool {
	return !slices.ContainsFunc(things, func(thing T) bool { return !holds(thing) })
}

// texts is the texts of columns.
func texts(columns []api.Column) []string {
	var list []string
	for _, c := range columns {
		list = append(list, c.Text)
	}
	return list
}

// isExpression tells whether a text is a canonical expression.
func isExpression(s string) bool {
	c, e := show.Canon(s, false)
	return e == api.OK && c == s
}

// isTests tells whether a text is canonical unary tests.
func isTests(s string) bool {
	c, e := show.Canon(s, true)
	return e == api.OK && c == s
}

// isPlain tells whether a text that is unary tests is those of literals.
func isPlain(s string) bool {
	nodes, _ := expr.Tests(s)
	plain, _ := unary.Plain(nodes)
	return plain
}

// isLiteral tells whether a text is a canonical literal. An expression that is unary tests, too,
// is one test that equals it, which is plain if it is a literal.
func isLiteral(s string) bool {
	return isExpression(s) && isPlain(s)
}
