package model

import (
	"slices"
	"strconv"
	"strings"
	"testing"

	"tariff/api"
)

// wide is a model with inputs of each type, named like that, and a decision that needs them all.
func wide(d api.Decision) api.Model {
	m := api.Model{Id: "m"}
	d.Id, d.Name = "d", "d"
	for i, item := range []string{"any", "boolean", "number", "string", "date", "list<any>", "list<boolean>", "list<number>", "list<string>", "list<date>"} {
		m.Inputs = append(m.Inputs, api.Input{Id: number("i", i), Name: number("t", i), Item: item})
		d.Needs = append(d.Needs, number("i", i))
	}
	m.Decisions = []api.Decision{d}
	return m
}

// typeNames are the types, in the order of the names t0 to t9.
func typeNames() []string {
	var list []string
	for _, i := range wide(api.Decision{}).Inputs {
		list = append(list, i.Item)
	}
	return list
}

// says is a list of the same text.
func says(s string, n int) []string {
	return slices.Repeat([]string{s}, n)
}

// outs is so many output columns.
func outs(n int) []api.Column {
	var list []api.Column
	for i := range n {
		list = append(list, api.Column{Text: number("o", i)})
	}
	return list
}

// numerals is so many different numbers.
func numerals(n int) []string {
	var list []string
	for i := range n {
		list = append(list, strconv.Itoa(i))
	}
	return list
}

// fill is a list of so many things.
func fill[T any](n int, thing func(i int) T) []T {
	var list []T
	for i := range n {
		list = append(list, thing(i))
	}
	return list
}

// text is a decision with a text.
func text(i int) api.Decision {
	return api.Decision{Id: number("d", i), Name: number("e", i), Text: "1"}
}

// P17.2: each limit, at it and beyond it.
func TestLimits(t *testing.T) {
	items := func(n int) api.Model {
		return api.Model{Id: "m", Items: fill(n, func(i int) api.Item { return api.Item{Name: number("t", i)} })}
	}
	inputs := func(n int) api.Model {
		return api.Model{Id: "m", Inputs: fill(n, func(i int) api.Input { return api.Input{Id: number("i", i), Name: number("x", i)} })}
	}
	decisions := func(n int) api.Model { return api.Model{Id: "m", Decisions: fill(n, text)} }
	needs := func(n int) api.Model {
		m := inputs(min(n, 40))
		m.Decisions = []api.Decision{{Id: "d", Name: "d", Text: "1", Needs: fill(n, func(i int) string { return number("i", i) })}}
		return m
	}
	table := func(x api.Table) api.Model {
		x.Policy = max(x.Policy, 7)
		return api.Model{Id: "m", Decisions: []api.Decision{{Id: "d", Name: "d", Table: x}}}
	}
	ins := func(n int) api.Model {
		column := func(int) api.Column { return api.Column{Text: "1"} }
		return table(api.Table{Ins: fill(n, column), Outs: outs(1), Rules: []api.Rule{{Tests: says("-", n), Says: says("1", 1)}}})
	}
	results := func(n int) api.Model {
		return table(api.Table{Outs: outs(n), Rules: []api.Rule{{Says: says("1", n)}}, Default: says("1", n)})
	}
	rules := func(n int) api.Model {
		return table(api.Table{Outs: outs(1), Rules: fill(n, func(int) api.Rule { return api.Rule{Says: says("1", 1)} })})
	}
	values := func(n int) api.Model {
		return table(api.Table{Outs: []api.Column{{Text: "o", Values: numerals(n)}}})
	}
	weight := func(n int) api.Model {
		m := api.Model{Id: "m", Items: fill(19, func(i int) api.Item {
			return api.Item{Name: number("t", 100+i), Type: api.Type{Kind: api.Text}, Allowed: `"` + strings.Repeat("x", 998) + `"`}
		})}
		m.Name = strings.Repeat("n", n-wantWeight(m))
		return m
	}
	name := func(n int) api.Model { return api.Model{Id: "m", Name: strings.Repeat("n", n)} }
	id := func(n int) api.Model { return api.Model{Id: strings.Repeat("n", n)} }
	expression := func(n int) api.Model {
		m := decisions(1)
		m.Decisions[0].Text = `"` + strings.Repeat("n", n-2) + `"`
		return m
	}
	for i, c := range []struct {
		make func(n int) api.Model
		most int
		e    api.Errno
	}{
		{items, 40, api.ErrLong}, {inputs, 40, api.ErrLong}, {decisions, 40, api.ErrLong}, {needs, 20, api.ErrLong}, {ins, 8, api.ErrLong}, {results, 8, api.ErrLong}, {rules, 60, api.ErrLong}, {values, 60, api.ErrLong}, {weight, 20000, api.ErrLong}, {name, 1000, api.ErrForm}, {id, 64, api.ErrForm}, {expression, 1000, api.ErrForm},
	} {
		for n, want := range map[int]api.Errno{c.most: api.OK, c.most - 1: api.OK, c.most + 1: c.e} {
			m := c.make(n)
			if e := Validate(m); e != want {
				t.Errorf("limit %d, %d: %v, want %v", i, n, e, want)
			}
			hold(t, m)
		}
	}
	for i, x := range []api.Table{
		{Rules: []api.Rule{{Tests: says("1", 9)}}}, {Rules: []api.Rule{{}, {Says: says("1", 9)}}}, {Default: says("", 9)}, {Ins: make([]api.Column, 9)}, {Outs: make([]api.Column, 9)}, {Ins: []api.Column{{}, {Values: says("", 61)}}}, {Outs: []api.Column{{}, {Values: says("", 61)}}}, {Rules: make([]api.Rule, 61)}, {Rules: []api.Rule{{Tests: says(strings.Repeat("x", 9980), 1), Says: says(strings.Repeat("x", 9980), 1)}}},
	} {
		// What is too long is told ahead of what is not in form, in a table beside a text, too.
		for _, s := range []string{"", "1", "x*"} {
			m := api.Model{Decisions: []api.Decision{text(0), {Id: "i", Name: "", Needs: []string{"d", "d"}, Text: s, Table: x}}}
			if e := Validate(m); e != api.ErrLong {
				t.Errorf("table %d: %v", i, e)
			}
			hold(t, m)
		}
	}
}

// A fault is a change of the sample, and the error that is told then.
type fault struct {
	e      api.Errno
	change func(m *api.Model)
}

// A trial is texts that all have the same error.
type trial struct {
	e     api.Errno
	texts []string
}

// forms is changes of the sample that leave it in form, or don't.
func forms() []fault {
	var list []fault
	add := func(e api.Errno, change func(m *api.Model)) { list = append(list, fault{e, change}) }
	for _, s := range []string{"", "2x", "a b", "if", "null", "é", "a-b", "\xff", " a", "a ", strings.Repeat("n", 65)} {
		add(api.ErrForm, func(m *api.Model) { m.Id = s })
		add(api.ErrForm, func(m *api.Model) { m.Items[4].Name = s })
		add(api.ErrForm, func(m *api.Model) { m.Inputs[4].Id = s })
		add(api.ErrForm, func(m *api.Model) { m.Inputs[0].Name = s })
		add(api.ErrForm, func(m *api.Model) { m.Decisions[4].Id = s })
		add(api.ErrForm, func(m *api.Model) { m.Decisions[4].Name = s })
		add(api.ErrForm, func(m *api.Model) { m.Decisions[4].Table.Outs[0].Text = s })
		add(api.ErrForm, func(m *api.Model) { m.Decisions[3].Table.Outs[1].Text = s })
	}
	for _, s := range []string{"any", "boolean", "number", "string", "date", "list<any>"} {
		add(api.ErrForm, func(m *api.Model) { m.Items[0].Name = s })
	}
	for _, s := range []string{"list", "Number", "text", "shop", "i1", "x", "d1", "rate", "out"} {
		add(api.OK, func(m *api.Model) { m.Items[0].Name, m.Inputs[1].Item, m.Decisions[0].Table.Ins[1].Item = s, s, s })
		add(api.OK, func(m *api.Model) { m.Id = s })
	}
	for _, s := range []string{"any", "number", "date", "shop", "i4", "tier", "out", "d4", "Double"} {
		add(api.OK, func(m *api.Model) { m.Inputs[3].Name = s })
		add(api.OK, func(m *api.Model) { m.Decisions[4].Table.Outs[0].Text = s })
	}
	for _, x := range []trial{
		{api.OK, []string{"", "é", "\t\r\n", strings.Repeat("é", 500), "\U0010ffff"}},
		{api.ErrForm, []string{strings.Repeat("é", 501), "\x00", "a\xff", "\uffff", "\xed\xa0\x80", "\x1f"}},
	} {
		for _, s := range x.texts {
			add(x.e, func(m *api.Model) { m.Name = s })
		}
	}
	for _, k := range []api.Type{{Kind: -1}, {Kind: 6}, {Kind: 5, Of: 5}, {Kind: 5, Of: -1}, {Of: 1}, {Kind: 2, Of: 2}, {Kind: 9}} {
		add(api.ErrForm, func(m *api.Model) { m.Items[2].Type = k })
	}
	return list
}

// allowed is changes of what is allowed of a number, and of the values of an output of any type.
func allowed() []fault {
	var list []fault
	for _, x := range []trial{
		{api.OK, []string{"", "-", "1", "-1", "1, 2", "1, 1", "not(1)", "[1..2)", "(2..1]", "< 1, > 2", "-0"}},
		{api.ErrForm, []string{"1,2", " 1", "1 ", "01", "1.0", "(1)", "<1", "x", "1 + 1", "null", "--1", "[1, 2]", "{}", "f()", "1, x", "not(x)", "[1..x]", " ", "- ", "not", "\xff", "1,", "0.0000000000000000001", `"a`}},
		{api.ErrType, []string{`"a"`, "true", `@"2024-01-01"`, `1, "a"`, `not("a")`, `[1.."a"]`, "< true"}},
	} {
		for _, s := range x.texts {
			list = append(list, fault{x.e, func(m *api.Model) { m.Items[1].Allowed = s }})
		}
	}
	for _, x := range []trial{
		{api.OK, []string{"1", "-1", "0", "-0", "true", "false", `"a"`, `""`, `@"2024-02-29"`, "2.5", "-2.5"}},
		{api.ErrForm, []string{"", "null", "x", "--1", "1 + 1", "[]", "[1]", "{}", "f()", "1.a", "(1)", "-", "< 1", "not(1)", "1, 2", "[1..2]", " 1", "1.0", "- 1", `-"a"`, "-true", "not true", "1 = 1", "true and true", "if true then 1 else 2", "1 in (1)", `@"2024-02-30"`}},
	} {
		for _, s := range x.texts {
			list = append(list, fault{x.e, func(m *api.Model) { m.Decisions[4].Table.Outs[0].Values = []string{s} }})
			list = append(list, fault{x.e, func(m *api.Model) { m.Decisions[4].Table.Outs[0].Values = []string{"7", s} }})
		}
	}
	return list
}

// tables is changes of the decisions that leave them in form, or don't.
func tables() []fault {
	var list []fault
	add := func(e api.Errno, change func(rate, double *api.Decision, x *api.Table)) {
		list = append(list, fault{e, func(m *api.Model) { change(&m.Decisions[0], &m.Decisions[1], &m.Decisions[0].Table) }})
	}
	for _, s := range []string{"x*2", " x", "x ", "(x)", "x +", "", "1.0", "-", "< 1", "1, 2", "\xff", "x # 2", "not(x)"} {
		add(api.ErrForm, func(_, d *api.Decision, _ *api.Table) { d.Text = s })
		add(api.ErrForm, func(_, _ *api.Decision, x *api.Table) { x.Ins[1].Text = s })
		add(api.ErrForm, func(_, _ *api.Decision, x *api.Table) { x.Rules[1].Says[0] = s })
		add(api.ErrForm, func(_, _ *api.Decision, x *api.Table) { x.Default[0] = s })
		if s != "-" && s != "< 1" && s != "1, 2" && s != "not(x)" {
			add(api.ErrForm, func(_, _ *api.Decision, x *api.Table) { x.Rules[1].Tests[1] = s })
		}
	}
	for _, n := range []int{-1, 0, 12, 100} {
		add(api.ErrForm, func(_, _ *api.Decision, x *api.Table) { x.Policy = n })
		add(api.ErrForm, func(d, _ *api.Decision, x *api.Table) { d.Text, x.Policy = "1", n })
	}
	for n := 1; n <= 11; n++ {
		add(api.OK, func(d, _ *api.Decision, x *api.Table) { d.Item, x.Policy = "", n })
		add(api.ErrForm, func(_, d *api.Decision, _ *api.Table) { d.Table.Policy = n })
	}
	add(api.ErrForm, func(_, d *api.Decision, _ *api.Table) { d.Table.Policy = -1 })
	add(api.ErrForm, func(_, d *api.Decision, _ *api.Table) { d.Table.Ins = []api.Column{{Text: "1"}} })
	add(api.ErrForm, func(_, d *api.Decision, _ *api.Table) { d.Table.Outs = outs(1) })
	add(api.ErrForm, func(_, d *api.Decision, _ *api.Table) { d.Table.Rules = make([]api.Rule, 1) })
	add(api.ErrForm, func(_, d *api.Decision, _ *api.Table) { d.Table.Default = []string{"1"} })
	add(api.OK, func(_, d *api.Decision, _ *api.Table) { d.Table.Rules = []api.Rule{} })
	add(api.ErrForm, func(d, _ *api.Decision, x *api.Table) { d.Text = "1" })
	add(api.ErrForm, func(_, d *api.Decision, _ *api.Table) { d.Text, d.Table.Policy = "", 1 })
	add(api.ErrForm, func(_, _ *api.Decision, x *api.Table) { x.Outs = nil })
	add(api.ErrForm, func(_, _ *api.Decision, x *api.Table) { x.Outs, x.Rules, x.Default = nil, nil, nil })
	add(api.OK, func(_, _ *api.Decision, x *api.Table) { x.Ins, x.Rules, x.Default = nil, nil, nil })
	add(api.ErrForm, func(_, _ *api.Decision, x *api.Table) { x.Ins[0].Values = []string{"1"} })
	add(api.ErrForm, func(_, _ *api.Decision, x *api.Table) { x.Ins[1].Values = []string{""} })
	add(api.ErrForm, func(_, _ *api.Decision, x *api.Table) { x.Outs[0].Values = []string{"1", "2", "1"} })
	add(api.OK, func(_, _ *api.Decision, x *api.Table) { x.Outs[0].Values = []string{"1", "-1", "0", "-0"} })
	add(api.ErrForm, func(d, _ *api.Decision, x *api.Table) {
		d.Item, x.Outs, x.Rules, x.Default = "", append(outs(2), outs(1)...), nil, nil
	})
	add(api.OK, func(d, _ *api.Decision, x *api.Table) {
		d.Item, x.Outs, x.Rules, x.Default = "", []api.Column{{Text: "a", Values: []string{"1"}}, {Text: "A", Values: []string{"1"}}}, nil, nil
	})
	add(api.ErrForm, func(_, _ *api.Decision, x *api.Table) { x.Rules[0].Tests = x.Rules[0].Tests[:1] })
	add(api.ErrForm, func(_, _ *api.Decision, x *api.Table) { x.Rules[1].Tests = append(x.Rules[1].Tests, "-") })
	add(api.ErrForm, func(_, _ *api.Decision, x *api.Table) { x.Rules[1].Tests = nil })
	add(api.ErrForm, func(_, _ *api.Decision, x *api.Table) { x.Rules[1].Says = nil })
	add(api.ErrForm, func(_, _ *api.Decision, x *api.Table) { x.Rules[0].Says = append(x.Rules[0].Says, "1") })
	add(api.ErrForm, func(_, _ *api.Decision, x *api.Table) { x.Default = append(x.Default, "1") })
	add(api.OK, func(_, _ *api.Decision, x *api.Table) { x.Default = nil })
	add(api.OK, func(_, _ *api.Decision, x *api.Table) { x.Rules[0].Tests[1] = "not(\"a\", level)" })
	return list
}

// uses is changes of names, ids, items and needs.
func uses() []fault {
	return []fault{
		{api.ErrTwice, func(m *api.Model) { m.Items[4].Name = "tier" }}, {api.ErrTwice, func(m *api.Model) { m.Inputs[4].Id = "i1" }}, {api.ErrTwice, func(m *api.Model) { m.Inputs[4].Name = "x" }}, {api.ErrTwice, func(m *api.Model) { m.Decisions[4].Id = "d1" }}, {api.ErrTwice, func(m *api.Model) { m.Decisions[4].Name = "rate" }}, {api.ErrTwice, func(m *api.Model) { m.Inputs[0].Id = "d5" }}, {api.ErrTwice, func(m *api.Model) { m.Inputs[0].Name = "total" }}, {api.ErrTwice, func(m *api.Model) { m.Decisions[2].Needs = []string{"i1", "d1", "i1"} }}, {api.ErrTwice, func(m *api.Model) { m.Decisions[4].Needs = []string{"none", "none"} }}, {api.ErrTwice, func(m *api.Model) { m.Decisions[4].Needs = []string{"", ""} }}, {api.OK, func(m *api.Model) { m.Decisions[4].Needs = []string{"i1", "i2", "i3", "d3", "d4"} }}, {api.OK, func(m *api.Model) { m.Inputs[4].Id, m.Inputs[3].Name = "from", "i5"; m.Decisions[2].Needs[0] = "from" }}, {api.OK, func(m *api.Model) { m.Inputs[4].Name, m.Decisions[2].Table.Ins[0].Text = "i5", "i5" }},
		{api.ErrName, func(m *api.Model) { m.Inputs[4].Item = "none" }}, {api.ErrName, func(m *api.Model) { m.Inputs[0].Item = "Number" }}, {api.ErrName, func(m *api.Model) { m.Inputs[0].Item = "list" }}, {api.ErrName, func(m *api.Model) { m.Inputs[0].Item = " " }}, {api.ErrName, func(m *api.Model) { m.Inputs[0].Item = "\xff" }}, {api.ErrName, func(m *api.Model) { m.Decisions[4].Item = "none" }}, {api.ErrName, func(m *api.Model) { m.Decisions[1].Item = "list<amount>" }}, {api.ErrName, func(m *api.Model) { m.Decisions[0].Table.Ins[1].Item = "none" }}, {api.ErrName, func(m *api.Model) { m.Decisions[3].Table.Outs[1].Item = "none" }}, {api.ErrName, func(m *api.Model) { m.Items = m.Items[:4] }}, {api.OK, func(m *api.Model) { m.Inputs[4].Item = "list<date>" }}, {api.OK, func(m *api.Model) { m.Inputs[4].Item = "any" }},
		{api.ErrName, func(m *api.Model) { m.Decisions[4].Needs = []string{"i9"} }}, {api.ErrName, func(m *api.Model) { m.Decisions[4].Needs = []string{"x"} }}, {api.ErrName, func(m *api.Model) { m.Decisions[4].Needs = []string{"shop"} }}, {api.ErrName, func(m *api.Model) { m.Decisions[4].Needs = []string{""} }}, {api.ErrName, func(m *api.Model) { m.Decisions[4].Needs = []string{"i1", "tier"} }}, {api.ErrName, func(m *api.Model) { m.Decisions[4].Needs = []string{"I1"} }}, {api.ErrName, func(m *api.Model) { m.Decisions = m.Decisions[:4]; m.Decisions[0].Needs[0] = "d5" }},
		{api.ErrCycle, func(m *api.Model) { m.Decisions[4].Needs = []string{"d5"} }}, {api.ErrCycle, func(m *api.Model) { m.Decisions[1].Needs = append(m.Decisions[1].Needs, "d1") }}, {api.ErrCycle, func(m *api.Model) { m.Decisions[1].Needs = append(m.Decisions[1].Needs, "d4") }}, {api.OK, func(m *api.Model) { m.Decisions[1].Needs = append(m.Decisions[1].Needs, "d5") }},
	}
}

// misfits is changes of the sample's types.
func misfits() []fault {
	return []fault{
		{api.ErrType, func(m *api.Model) { m.Items[0].Type = api.Type{Kind: 2} }}, {api.ErrType, func(m *api.Model) { m.Items[0].Type = api.Type{Kind: 5, Of: 3} }}, {api.OK, func(m *api.Model) { m.Items[0].Type = api.Type{} }}, {api.ErrType, func(m *api.Model) { m.Items[4].Allowed = "true, 1" }}, {api.OK, func(m *api.Model) { m.Items[4].Allowed = "true, false" }}, {api.ErrType, func(m *api.Model) { m.Items[4].Allowed = "> false" }}, {api.ErrType, func(m *api.Model) { m.Items[2].Allowed = `"a"` }},
		{api.ErrType, func(m *api.Model) { m.Decisions[0].Table.Outs[0].Values = []string{"1", `"a"`} }}, {api.ErrType, func(m *api.Model) { m.Decisions[2].Table.Outs[0].Values = []string{`"a"`, "true"} }}, {api.OK, func(m *api.Model) { m.Decisions[4].Table.Outs[0].Values = []string{`"a"`, "1", "true"} }}, {api.ErrType, func(m *api.Model) { m.Decisions[3].Table.Outs[1].Values = []string{"1"} }}, {api.OK, func(m *api.Model) { m.Decisions[0].Table.Outs[0].Values = []string{"2000"} }},
		{api.ErrName, func(m *api.Model) { m.Decisions[1].Text = "level" }}, {api.ErrName, func(m *api.Model) { m.Decisions[1].Text = "double" }}, {api.ErrName, func(m *api.Model) { m.Decisions[1].Text = "i1" }}, {api.ErrName, func(m *api.Model) { m.Decisions[1].Text = "f(x)" }}, {api.ErrType, func(m *api.Model) { m.Decisions[1].Text = "x + true" }}, {api.ErrType, func(m *api.Model) { m.Decisions[1].Text = "x > 1" }}, {api.OK, func(m *api.Model) { m.Decisions[1].Text = "null" }}, {api.ErrType, func(m *api.Model) { m.Decisions[1].Item = "tier" }}, {api.ErrType, func(m *api.Model) { m.Decisions[1].Item = "tags" }},
		{api.ErrName, func(m *api.Model) { m.Decisions[0].Table.Ins[1].Text = "z" }}, {api.ErrType, func(m *api.Model) { m.Decisions[0].Table.Ins[1].Text = "1" }}, {api.ErrType, func(m *api.Model) { m.Decisions[0].Table.Ins[0].Text = "-level" }}, {api.ErrName, func(m *api.Model) { m.Decisions[0].Table.Rules[1].Tests[1] = "z" }}, {api.ErrType, func(m *api.Model) { m.Decisions[0].Table.Rules[1].Tests[1] = "1" }}, {api.OK, func(m *api.Model) { m.Decisions[0].Table.Rules[1].Tests[1] = `"c"` }}, {api.ErrName, func(m *api.Model) { m.Decisions[0].Table.Rules[1].Says[0] = "z" }}, {api.ErrType, func(m *api.Model) { m.Decisions[0].Table.Rules[1].Says[0] = "level" }}, {api.ErrType, func(m *api.Model) { m.Decisions[0].Table.Rules[1].Says[0] = "1 + true" }}, {api.ErrName, func(m *api.Model) { m.Decisions[0].Table.Default[0] = "z" }}, {api.ErrType, func(m *api.Model) { m.Decisions[0].Table.Default[0] = "level" }}, {api.ErrType, func(m *api.Model) { m.Decisions[3].Table.Rules[1].Says[0] = "1" }}, {api.ErrType, func(m *api.Model) { m.Decisions[3].Table.Default[1] = "true" }},
		{api.ErrName, func(m *api.Model) { m.Decisions[0].Table.Ins[0].Text = "x" }}, {api.ErrMiss, func(m *api.Model) { m.Decisions[2].Table.Outs[0].Values = nil }}, {api.ErrMiss, func(m *api.Model) { m.Decisions[3].Table.Policy = 3 }}, {api.OK, func(m *api.Model) { x := &m.Decisions[3].Table; x.Policy, x.Outs[0].Values = 3, []string{"true"} }}, {api.ErrType, func(m *api.Model) { m.Decisions[3].Table.Policy = 8 }}, {api.ErrType, func(m *api.Model) { m.Decisions[3].Table.Policy = 11 }}, {api.ErrType, func(m *api.Model) { m.Decisions[2].Table.Policy = 9 }}, {api.ErrType, func(m *api.Model) { m.Decisions[2].Table.Policy = 11 }}, {api.OK, func(m *api.Model) { m.Decisions[2].Item, m.Decisions[2].Table.Policy = "", 11 }}, {api.ErrType, func(m *api.Model) { m.Decisions[2].Item = "string" }}, {api.ErrType, func(m *api.Model) { m.Decisions[4].Item = "string" }},
	}
}

// P17.2: each condition by itself.
func TestFaults(t *testing.T) {
	for i, list := range [][]fault{forms(), allowed(), tables(), uses(), misfits()} {
		for k, f := range list {
			m := sample()
			f.change(&m)
			if e := Validate(m); e != f.e {
				t.Errorf("list %d, fault %d: %v, want %v: %s", i, k, e, f.e, brief(m))
			}
			hold(t, m)
		}
	}
}

// P17.2: two faults, of which the one that is stated first is told.
func TestPairs(t *testing.T) {
	long := []fault{{api.ErrLong, func(m *api.Model) { m.Items = append(m.Items, make([]api.Item, 36)...) }}, {api.ErrLong, func(m *api.Model) { m.Decisions[4].Table.Default = says("", 9) }}, {api.ErrLong, func(m *api.Model) { m.Inputs[0].Item = strings.Repeat("x", 20000) }}}
	var list []fault
	for _, f := range slices.Concat(long, forms()[:8], allowed(), tables(), uses(), misfits()) {
		if f.e != api.OK {
			list = append(list, f)
		}
	}
	seen := map[int]int{}
	for i, a := range list {
		for k := i % 7; k < len(list); k += 7 {
			m := sample()
			if !both(&m, a, list[k]) {
				continue
			}
			want, condition := wantValidate(m)
			if e := Validate(m); e != want {
				t.Errorf("faults %d and %d: %v, want %v: %s", i, k, e, want, brief(m))
			}
			seen[condition]++
		}
	}
	for c := 1; c <= 7; c++ {
		if seen[c] < 20 {
			t.Error(seen)
		}
	}
}

// both makes two changes; false if the second one finds nothing to change any more.
func both(m *api.Model, a, b fault) (ok bool) {
	defer func() { recover() }()
	a.change(m)
	b.change(m)
	return true
}

// P17.2: the first of the errors among the types of the decisions, in their order.
func TestFirstError(t *testing.T) {
	const name, misfit = "z", `"a" + 1`
	table := func() api.Decision {
		return api.Decision{Item: "number", Table: api.Table{Policy: 8, Ins: []api.Column{{Text: "t2", Item: "number"}, {Text: "t3", Item: "string"}}, Outs: []api.Column{{Text: "a", Item: "number"}},
			Rules: []api.Rule{{Tests: []string{"1", `"b"`}, Says: []string{"1"}}, {Tests: []string{"-", "-"}, Says: []string{"2"}}}, Default: []string{"3"}}}
	}
	// The places of a table, in the order in which they are looked at.
	at := func(x *api.Table) []*string {
		return []*string{&x.Ins[0].Text, &x.Ins[1].Text, &x.Rules[0].Tests[0], &x.Rules[0].Tests[1], &x.Rules[0].Says[0], &x.Rules[1].Tests[0], &x.Rules[1].Tests[1], &x.Rules[1].Says[0], &x.Default[0]}
	}
	if e := Validate(wide(table())); e != api.OK {
		t.Fatal(e)
	}
	for i := range 9 {
		for k := range i {
			for _, swap := range []bool{false, true} {
				d := table()
				first, second, want := name, misfit, api.ErrName
				if swap {
					first, second, want = misfit, name, api.ErrType
				}
				*at(&d.Table)[k], *at(&d.Table)[i] = first, second
				if e := Validate(wide(d)); e != want {
					t.Errorf("places %d and %d: %v, want %v", k, i, e, want)
				}
				hold(t, wide(d))
			}
		}
		// An expression of another type, ahead of a name that is none, and behind it.
		for _, c := range []struct {
			at   int
			want api.Errno
		}{{0, api.ErrType}, {4, api.ErrType}, {8, api.ErrType}} {
			d := table()
			*at(&d.Table)[c.at] = "true"
			want := c.want
			if i != c.at {
				*at(&d.Table)[i] = name
			}
			if i < c.at {
				want = api.ErrName
			}
			if e := Validate(wide(d)); e != want {
				t.Errorf("places %d and %d: %v, want %v", c.at, i, e, want)
			}
		}
		// What the policy lacks comes after all of them, and the type of the table after that.
		d := table()
		*at(&d.Table)[i], d.Table.Policy = name, 3
		if e := Validate(wide(d)); e != api.ErrName {
			t.Errorf("place %d: %v", i, e)
		}
	}
	d := table()
	d.Item, d.Table.Policy = "string", 3
	if e := Validate(wide(d)); e != api.ErrMiss {
		t.Error(e)
	}
	// The decisions come in the order of the model, whatever needs what.
	m := small("x * 2", "i")
	m.Decisions = []api.Decision{{Id: "a", Name: "a", Text: name, Needs: []string{"d"}}, {Id: "d", Name: "d", Text: misfit}}
	if e := Validate(m); e != api.ErrName {
		t.Error(e)
	}
	slices.Reverse(m.Decisions)
	if e := Validate(m); e != api.ErrType {
		t.Error(e)
	}
}

// P17.2: each policy with outputs of each type, for a decision of each type.
func TestPolicies(t *testing.T) {
	seen := map[api.Errno]int{}
	for policy := 1; policy <= 11; policy++ {
		for _, own := range append(typeNames(), "") {
			for _, item := range append(typeNames(), "") {
				for _, values := range []bool{false, true} {
					for n := 1; n <= 2; n++ {
						x := api.Table{Policy: policy, Outs: outs(n)}
						x.Outs[0].Item = item
						if values {
							x.Outs[n-1].Values = []string{"1"}
						}
						e, _ := hold(t, wide(api.Decision{Item: own, Table: x}))
						seen[e]++
					}
				}
			}
		}
	}
	if seen[api.OK] < 1000 || seen[api.ErrType] < 1000 || seen[api.ErrMiss] < 100 {
		t.Error(seen)
	}
}

// P17.2: expressions and tests of each type where each type is wanted.
func TestEachType(t *testing.T) {
	for i := range typeNames() {
		s := number("t", i)
		for _, item := range append(typeNames(), "") {
			hold(t, wide(api.Decision{Item: item, Text: s}))
			hold(t, wide(api.Decision{Table: api.Table{Policy: 1, Ins: []api.Column{{Text: s, Item: item}}, Outs: outs(1)}}))
			hold(t, wide(api.Decision{Table: api.Table{Policy: 1, Outs: []api.Column{{Text: "a", Item: item}}, Default: []string{s}}}))
			hold(t, wide(api.Decision{Table: api.Table{Policy: 1, Outs: []api.Column{{Text: "a", Item: item}}, Rules: []api.Rule{{Says: []string{s}}}}}))
			for _, test := range []string{s, "< " + s, "not([" + s + "..1])"} {
				hold(t, wide(api.Decision{Table: api.Table{Policy: 1, Ins: []api.Column{{Text: "t0", Item: item}}, Outs: outs(1), Rules: []api.Rule{{Tests: []string{test}, Says: []string{"1"}}}}}))
			}
		}
		for _, literal := range []string{"true", "1", `"a"`, `@"2024-01-01"`} {
			hold(t, wide(api.Decision{Table: api.Table{Policy: 7, Outs: []api.Column{{Text: "a", Item: typeNames()[i], Values: []string{literal}}}}}))
		}
	}
}
