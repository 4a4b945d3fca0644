package run

import (
	"tariff/api"
	"tariff/calc"
	"tariff/expr"
	"tariff/hit"
	"tariff/kind"
	"tariff/model"
	"tariff/unary"
)

// scene is a valid model, and a context of the names that one of its decisions may use.
type scene struct {
	model api.Model
	names api.Value
}

// local is what a decision comes to.
func (s scene) local(d api.Decision) (api.Value, api.Errno) {
	v, e := s.unfitted(d)
	if e != api.OK {
		return api.Value{}, e
	}
	if !fits(s.model, d.Item, v) {
		return api.Value{}, api.ErrType
	}
	return v, api.OK
}

// unfitted is what a decision's text or table comes to, whatever its type.
func (s scene) unfitted(d api.Decision) (api.Value, api.Errno) {
	if d.Text != "" {
		return s.eval(d.Text)
	}
	return s.table(d.Table)
}

// table is what a table comes to.
func (s scene) table(t api.Table) (api.Value, api.Errno) {
	matched, e := s.matches(t)
	if e != api.OK {
		return api.Value{}, e
	}
	var rows [][]api.Value
	for _, at := range matched {
		row, e := s.row(t.Outs, t.Rules[at].Says)
		if e != api.OK {
			return api.Value{}, e
		}
		rows = append(rows, row)
	}
	var other []api.Value
	if len(rows) == 0 {
		if other, e = s.row(t.Outs, t.Default); e != api.OK {
			return api.Value{}, e
		}
	}
	names, order := outputs(t.Outs)
	return hit.Decide(t.Policy, names, order, rows, other)
}

// matches is the places of the rules that match; of the policy First, only of the first one.
func (s scene) matches(t api.Table) ([]int, api.Errno) {
	values, e := s.columns(t.Ins)
	if e != api.OK {
		return nil, e
	}
	var matched []int
rules:
	for at, r := range t.Rules {
		for i, text := range r.Tests {
			nodes, _ := expr.Tests(text)
			result, e := calc.Test(nodes, s.names, values[i])
			if e != api.OK {
				return nil, e
			}
			if !result.Yes {
				continue rules
			}
		}
		matched = append(matched, at)
		if t.Policy == api.First {
			break
		}
	}
	return matched, api.OK
}

// columns is the values of input columns, each of which must be one that its item admits.
func (s scene) columns(ins []api.Column) ([]api.Value, api.Errno) {
	var values []api.Value
	for _, c := range ins {
		v, e := s.eval(c.Text)
		if e != api.OK {
			return nil, e
		}
		if !admits(s.model, c.Item, v) {
			return nil, api.ErrInput
		}
		values = append(values, v)
	}
	return values, api.OK
}

// row is what expressions come to, each of which must fit the type of its output.
func (s scene) row(outs []api.Column, texts []string) ([]api.Value, api.Errno) {
	var row []api.Value
	for i, text := range texts {
		v, e := s.eval(text)
		if e != api.OK {
			return nil, e
		}
		if !fits(s.model, outs[i].Item, v) {
			return nil, api.ErrType
		}
		row = append(row, v)
	}
	return row, api.OK
}

// eval is what an expression comes to.
func (s scene) eval(text string) (api.Value, api.Errno) {
	nodes, _ := expr.Parse(text)
	return calc.Eval(nodes, s.names)
}

// outputs is the names of output columns, and the values that each lists in the order of priority.
func outputs(outs []api.Column) ([]string, [][]api.Value) {
	var names []string
	var order [][]api.Value
	for _, c := range outs {
		var list []api.Value
		for _, text := range c.Values {
			nodes, _ := expr.Tests(text) // a literal is the test that equals it
			ends, _ := unary.Ends(nodes)
			list = append(list, ends...)
		}
		names, order = append(names, c.Text), append(order, list)
	}
	return names, order
}

// fits tells whether a value fits the type of an item's text.
func fits(m api.Model, item string, v api.Value) bool {
	t, _, _ := model.Type(m, item)
	ok, _ := kind.Fits(v, t)
	return ok
}

// admits tells whether a value fits the type of an item's text and, unless it is null, is among
// what the item allows.
func admits(m api.Model, item string, v api.Value) bool {
	_, allowed, _ := model.Type(m, item)
	if allowed == "" || v.Kind == api.Null {
		return fits(m, item, v)
	}
	nodes, _ := expr.Tests(allowed)
	result, _ := unary.Match(nodes, v)
	return result.Yes && fits(m, item, v)
}
