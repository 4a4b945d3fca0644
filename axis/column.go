package axis

import (
	"slices"

	"tariff/api"
	"tariff/expr"
	"tariff/model"
	"tariff/unary"
)

// column is a table's input column: the kind of its values, the tests of what is allowed, and each rule's tests.
type column struct {
	kind    int
	allowed []api.Node
	tests   [][]api.Node
}

// read is an input column of the table of a decision.
func read(m api.Model, id string, col int) (column, api.Errno) {
	if e := model.Validate(m); e != api.OK {
		return column{}, e
	}
	at := slices.IndexFunc(m.Decisions, func(d api.Decision) bool { return d.Id == id })
	switch {
	case at < 0:
		return column{}, api.ErrName
	case m.Decisions[at].Text != "":
		return column{}, api.ErrType
	}
	table := m.Decisions[at].Table
	if col < 0 || col >= len(table.Ins) {
		return column{}, api.ErrArg
	}
	t, allowed, _ := model.Type(m, table.Ins[col].Item)
	if allowed == "" {
		allowed = "-"
	}
	c := column{kind: t.Kind}
	c.allowed, _ = expr.Tests(allowed)
	for _, r := range table.Rules {
		test, _ := expr.Tests(r.Tests[col])
		c.tests = append(c.tests, test)
	}
	return c, api.OK
}

// ends is the literals of all its tests, if it can be divided by them.
func (c column) ends() ([]api.Value, api.Errno) {
	if !divisible(c.kind) {
		return nil, api.ErrCannot
	}
	var ends []api.Value
	for _, test := range slices.Concat([][]api.Node{c.allowed}, c.tests) {
		list, e := unary.Ends(test)
		if e != api.OK || c.kind == api.Text && slices.ContainsFunc(test, ordering) {
			return nil, api.ErrCannot
		}
		ends = append(ends, list...)
	}
	return ends, api.OK
}

// ordering tells whether a node is a test that asks which of two values is less.
func ordering(n api.Node) bool {
	return n.Op >= api.OBelow && n.Op <= api.OSpan
}

// passing is the places of the segments whose values pass a test.
func passing(test []api.Node, segs []Seg) []int {
	var list []int
	for i, s := range segs {
		if passes(test, s.Value) {
			list = append(list, i)
		}
	}
	return list
}

// passes tells whether a value passes a test of literals.
func passes(test []api.Node, v api.Value) bool {
	result, _ := unary.Match(test, v)
	return result.Yes
}
