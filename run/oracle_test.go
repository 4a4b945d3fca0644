package run

import (
	"cmp"
	"fmt"
	"slices"
	"testing"

	"tariff/api"
	"tariff/calc"
	"tariff/expr"
	"tariff/hit"
	"tariff/kind"
	"tariff/model"
	"tariff/unary"
	"tariff/value"
)

// read is the value of a text.
func read(s string) api.Value {
	v, e := value.Read(s)
	if e != api.OK {
		panic("not a value: " + s)
	}
	return v
}

// print is the text of a value in form.
func print(v api.Value) string {
	s, _ := value.Print(v)
	return s
}

// must panics with an error, which caught tells.
func must[T any](x T, e api.Errno) T {
	if e != api.OK {
		panic(e)
	}
	return x
}

// caught is what f answers, or the error that it panics with.
func caught[T any](f func() T) (x T, e api.Errno) {
	defer func() {
		if told := recover(); told != nil {
			e = told.(api.Errno)
		}
	}()
	return f(), api.OK
}

// refuse panics with an error unless something holds.
func refuse(holds bool, e api.Errno) {
	if !holds {
		panic(e)
	}
}

// itemOf is the type of an item's text, and what it allows.
func itemOf(m api.Model, text string) (api.Type, string) {
	for _, i := range m.Items {
		if i.Name == text {
			return i.Type, i.Allowed
		}
	}
	return must(kind.Parse(cmp.Or(text, "any"))), ""
}

// wantFit tells whether a value fits the type of an item's text.
func wantFit(m api.Model, text string, v api.Value) bool {
	k, _ := itemOf(m, text)
	return must(kind.Fits(v, k))
}

// wantAllowed tells whether a value is null or among what an item's text allows.
func wantAllowed(m api.Model, text string, v api.Value) bool {
	_, allowed := itemOf(m, text)
	return v.Kind == api.Null || allowed == "" || print(must(unary.Match(must(expr.Tests(allowed)), v))) == "true"
}

// wantText is what an expression comes to.
func wantText(s string, names api.Value) api.Value {
	return must(calc.Eval(must(expr.Parse(s)), names))
}

// wantMatches is the rules of a table that match.
func wantMatches(m api.Model, t api.Table, names api.Value) []int {
	asked := map[int]api.Value{}
	for i, c := range t.Ins {
		asked[i] = wantText(c.Text, names)
		refuse(wantFit(m, c.Item, asked[i]) && wantAllowed(m, c.Item, asked[i]), api.ErrInput)
	}
	list := []int{}
	for at := 0; at < len(t.Rules) && (t.Policy != api.First || len(list) == 0); at++ {
		passed := 0
		for passed < len(t.Ins) && print(must(calc.Test(must(expr.Tests(t.Rules[at].Tests[passed])), names, asked[passed]))) == "true" {
			passed++
		}
		if passed == len(t.Ins) {
			list = append(list, at)
		}
	}
	return list
}

// wantLocal is what a decision comes to by itself.
func wantLocal(m api.Model, d api.Decision, names api.Value) api.Value {
	v := api.Value{}
	if d.Text != "" {
		v = wantText(d.Text, names)
	} else {
		v = wantTable(m, d.Table, names)
	}
	refuse(wantFit(m, d.Item, v), api.ErrType)
	return v
}

// wantTable is what a table comes to.
func wantTable(m api.Model, t api.Table, names api.Value) api.Value {
	var rows [][]api.Value
	var other []api.Value
	texts := [][]string{}
	for _, at := range wantMatches(m, t, names) {
		texts = append(texts, t.Rules[at].Says)
	}
	none := len(texts) == 0
	if none && len(t.Default) > 0 {
		texts = append(texts, t.Default)
	}
	for _, list := range texts {
		row := []api.Value{}
		for i, s := range list {
			row = append(row, wantText(s, names))
			refuse(wantFit(m, t.Outs[i].Item, row[i]), api.ErrType)
		}
		rows = append(rows, row)
	}
	if none && len(rows) > 0 {
		rows, other = nil, rows[0]
	}
	var outs []string
	var order [][]api.Value
	for _, c := range t.Outs {
		outs = append(outs, c.Text)
		list := []api.Value{}
		for _, s := range c.Values {
			list = append(list, wantText(s, api.Value{Kind: api.Ctx}))
		}
		order = append(order, list)
	}
	return must(hit.Decide(t.Policy, outs, order, rows, other))
}

// needed is the ids of all that a decision needs, directly or not, and its own.
func needed(m api.Model, id string) map[string]int {
	ids := map[string]int{id: 1}
	for before := 0; before < len(ids); {
		before = len(ids)
		for _, d := range m.Decisions {
			if ids[d.Id] > 0 {
				for _, need := range d.Needs {
					ids[need]++
				}
			}
		}
	}
	return ids
}

// wantEval is the value of a decision, worked out for it alone.
func wantEval(m api.Model, id string, inputs api.Value) api.Value {
	ids, values, names := needed(m, id), map[string]api.Value{}, map[string]string{}
	for _, i := range m.Inputs {
		v := wantText(i.Name, inputs)
		if ids[i.Id] > 0 {
			refuse(wantFit(m, i.Item, v) && wantAllowed(m, i.Item, v), api.ErrInput)
		}
		values[i.Id], names[i.Id] = v, i.Name
	}
	for _, next := range must(model.Plan(m)) {
		if ids[next] == 0 {
			continue
		}
		d := m.Decisions[slices.IndexFunc(m.Decisions, func(d api.Decision) bool { return d.Id == next })]
		scope := api.Value{Kind: api.Ctx}
		for _, need := range d.Needs {
			scope.Names, scope.List = append(scope.Names, names[need]), append(scope.List, values[need])
		}
		must(scope, value.Check(scope))
		values[next], names[next] = wantLocal(m, d, scope), d.Name
	}
	return values[id]
}

// answer is a value with its error, as a text.
func answer(v api.Value, e api.Errno) string {
	if e != api.OK {
		return fmt.Sprint("error ", int(e))
	}
	return print(v)
}

// holdLocal holds Local and Matches of a decision of a valid model against what they should answer.
func holdLocal(t *testing.T, m api.Model, d api.Decision, names api.Value) api.Errno {
	t.Helper()
	v, e := Local(m, d.Id, names)
	want, wantE := caught(func() api.Value { return wantLocal(m, d, names) })
	if answer(v, e) != answer(want, wantE) || e != api.OK && !value.Same(v, api.Value{}) {
		t.Errorf("Local(%v, %s, %s): %s, want %s", m, d.Id, print(names), answer(v, e), answer(want, wantE))
	}
	list, e2 := Matches(m, d.Id, names)
	wantList, wantE := caught(func() []int { return wantMatches(m, d.Table, names) })
	if d.Text != "" {
		wantList, wantE = nil, api.ErrType
	}
	if !slices.Equal(list, wantList) || e2 != wantE {
		t.Errorf("Matches(%v, %s, %s): %v %v, want %v %v", m, d.Id, print(names), list, e2, wantList, wantE)
	}
	return e
}

// hold holds Eval and All of a valid model against what they should answer, and tells the errors.
func hold(t *testing.T, m api.Model, inputs api.Value) []api.Errno {
	t.Helper()
	var errors []api.Errno
	plan := must(model.Plan(m))
	all, e := All(m, inputs)
	if e != api.OK || len(all) != len(plan) {
		t.Errorf("All(%v, %s): %v %v", m, print(inputs), all, e)
		return nil
	}
	for i, id := range plan {
		want := answer(caught(func() api.Value { return wantEval(m, id, inputs) }))
		v, e := Eval(m, id, inputs)
		if answer(v, e) != want || e != api.OK && !value.Same(v, api.Value{}) {
			t.Errorf("Eval(%v, %s, %s): %s, want %s", m, id, print(inputs), answer(v, e), want)
		}
		if o := all[i]; o.Id != id || answer(o.Value, o.Err) != want || value.Check(o.Value) != api.OK {
			t.Errorf("All(%v, %s): %v at %d, want %s", m, print(inputs), o, i, want)
		}
		errors = append(errors, e)
	}
	return errors
}
