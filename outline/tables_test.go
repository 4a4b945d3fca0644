package outline

import (
	"fmt"
	"strconv"

	"tariff/api"
	"tariff/model"
)

// column is an input column: its item's text, and each rule's test.
type column struct {
	item  string
	tests []string
}

// withTable is a model with a decision t that has a table of so many rules and of these columns, and with a
// decision e that has none. The column i is the input xi, of any type.
func withTable(rules int, columns ...column) api.Model {
	x := api.Table{Policy: api.Collect, Outs: []api.Column{{Text: "out"}}}
	m := api.Model{Id: "m", Items: items()}
	var needs []string
	for i, c := range columns {
		x.Ins = append(x.Ins, api.Column{Text: fmt.Sprint("x", i), Item: c.item})
		m.Inputs = append(m.Inputs, api.Input{Id: fmt.Sprint("i", i), Name: fmt.Sprint("x", i)})
		needs = append(needs, fmt.Sprint("i", i))
	}
	for r := range rules {
		rule := api.Rule{Says: []string{strconv.Itoa(r)}}
		for _, c := range columns {
			rule.Tests = append(rule.Tests, c.tests[r])
		}
		x.Rules = append(x.Rules, rule)
	}
	m.Decisions = []api.Decision{{Id: "e", Name: "e", Text: "1"}, {Id: "t", Name: "y", Needs: needs, Table: x}}
	return m
}

// items is item definitions of each kind.
func items() []api.Item {
	return []api.Item{{Name: "small", Type: api.Type{Kind: api.Num}, Allowed: "[0..10]"}, {Name: "tier", Type: api.Type{Kind: api.Text}, Allowed: `"a", "b"`}, {Name: "none", Type: api.Type{Kind: api.Bool}, Allowed: "not(true, false)"}, {Name: "sure", Type: api.Type{Kind: api.Bool}, Allowed: "true"}, {Name: "from", Type: api.Type{Kind: api.Date}, Allowed: `>= @"2024-01-01"`}, {Name: "order", Type: api.Type{Kind: api.Text}, Allowed: `>= "a"`}}
}

// numbers is so many different numbers, as tests of one number each.
func numbers(n int) []string {
	var list []string
	for i := range n {
		list = append(list, strconv.Itoa(i))
	}
	return list
}

// literal is a random literal of a kind.
func (s *source) literal(kind int) string {
	switch kind {
	case api.Bool:
		return pick(s, "true", "false")
	case api.Num:
		return pick(s, "0", "1", "5", "10", "-2.5", "7")
	case api.Text:
		return pick(s, `"a"`, `"b"`, `""`, `"zz"`)
	}
	return pick(s, `@"0001-01-01"`, `@"2024-01-01"`, `@"2024-02-29"`, `@"9999-12-31"`)
}

// test is a random test of a kind.
func (s *source) test(kind int) string {
	test := s.literal(kind)
	for s.below(3) == 0 {
		test += ", " + s.literal(kind)
	}
	switch n := s.below(9); {
	case n < 2:
		return "-"
	case n == 2:
		return "not(" + test + ")"
	case n > 3 && (kind == api.Num || kind == api.Date):
		return pick(s, "< "+test, "<= "+test, "> "+test, ">= "+test, "["+s.literal(kind)+".."+s.literal(kind)+"]", "("+s.literal(kind)+".."+s.literal(kind)+")")
	}
	return test
}

// model is a random model with a decision t that has a table of so many columns.
func (s *source) model(columns int) api.Model {
	rules := s.below(7)
	list := make([]column, columns)
	for i := range list {
		list[i].item = pick(s, "boolean", "number", "number", "string", "date", "small", "tier", "sure", "from", "none")
		if list[i].item == "none" && s.below(5) > 0 {
			list[i].item = "number"
		}
		t, _, _ := model.Type(api.Model{Items: items()}, list[i].item)
		for range rules {
			list[i].tests = append(list[i].tests, s.test(t.Kind))
		}
	}
	return withTable(rules, list...)
}
