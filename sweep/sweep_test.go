package sweep

import (
	"fmt"
	"slices"
	"strconv"
	"strings"
	"testing"

	"tariff/api"
	"tariff/dec"
	"tariff/model"
)

// column is an input column: its item's text, and each rule's test.
type column struct {
	item  string
	tests []string
}

// withTable is a model with a decision t that has a table of so many rules and of these columns, and with a
// decision e that has none. The column i is the input xi, of any type.
func withTable(items []api.Item, rules int, columns ...column) api.Model {
	x := api.Table{Policy: api.Collect, Outs: []api.Column{{Text: "out"}}}
	m := api.Model{Id: "m", Items: items}
	var needs []string
	for i, c := range columns {
		x.Ins = append(x.Ins, api.Column{Text: fmt.Sprint("x", i), Item: c.item})
		m.Inputs = append(m.Inputs, api.Input{Id: fmt.Sprint("i", i), Name: fmt.Sprint("x", i)})
		needs = append(needs, fmt.Sprint("i", i))
	}
	for r := range rules {
		rule := api.Rule{Says: []string{strconv.Itoa(r)}}
		for _, c := range columns {
			rule.Tests = append(rule.Tests, c.tests[r])
		}
		x.Rules = append(x.Rules, rule)
	}
	m.Decisions = []api.Decision{{Id: "e", Name: "e", Text: "1"}, {Id: "t", Name: "y", Needs: needs, Table: x}}
	return m
}

// one is a table of one column.
func one(item string, tests ...string) api.Model {
	return withTable(items(), len(tests), column{item, tests})
}

// items is item definitions of each kind.
func items() []api.Item {
	return []api.Item{{Name: "small", Type: api.Type{Kind: api.Num}, Allowed: "[0..10]"}, {Name: "tier", Type: api.Type{Kind: api.Text}, Allowed: `"a", "b"`}, {Name: "other", Type: api.Type{Kind: api.Text}, Allowed: `not("", "a")`}, {Name: "none", Type: api.Type{Kind: api.Bool}, Allowed: "not(true, false)"}, {Name: "sure", Type: api.Type{Kind: api.Bool}, Allowed: "true"}, {Name: "from", Type: api.Type{Kind: api.Date}, Allowed: `>= @"2024-01-01"`}, {Name: "order", Type: api.Type{Kind: api.Text}, Allowed: `>= "a"`}}
}

// numbers is so many different numbers, as tests of one number each.
func numbers(n int) []string {
	var list []string
	for i := range n {
		list = append(list, strconv.Itoa(i))
	}
	return list
}

func num(n int) api.Value { return api.Value{Kind: api.Num, Num: dec.Of(n)} }

// P24.2, P24.3: the chapter's examples, and some more.
func TestExamples(t *testing.T) {
	for i, c := range []struct {
		m       api.Model
		axes    []int
		matches [][]int
		want    Report
	}{
		{one("number", "< 5", "> 5"), []int{3}, [][]int{{0}, nil, {1}}, Report{Cells: 3, Missing: 1, Gaps: [][]complex128{{1 + 2i}}, Apart: true}},
		{one("number", "< 5", "> 5", "[5..9]"), []int{5}, [][]int{{0}, {2}, {1, 2}, {1, 2}, {1}}, Report{Cells: 5, Overlaps: []Overlap{{1, 2, []complex128{2 + 4i}, 2}}, Complete: true}},
		{one("number", "< 10", ">= 10"), []int{3}, [][]int{{0}, {1}, {1}}, Report{Cells: 3, Complete: true, Apart: true}},
		{withTable(nil, 2), nil, [][]int{{0, 1}}, Report{Cells: 1, Overlaps: []Overlap{{0, 1, nil, 1}}, Complete: true}},
		{withTable(nil, 0), nil, [][]int{nil}, Report{Cells: 1, Missing: 1, Gaps: [][]complex128{{}}, Apart: true}},
		{withTable(nil, 1), nil, [][]int{{0}}, Report{Cells: 1, Complete: true, Apart: true}},
		{one("number"), []int{1}, [][]int{nil}, Report{Cells: 1, Missing: 1, Gaps: [][]complex128{{1i}}, Apart: true}},
		{one("boolean", "true", "-", "true"), []int{2}, [][]int{{1}, {0, 1, 2}}, Report{Cells: 2, Overlaps: []Overlap{{0, 1, []complex128{1 + 2i}, 1}, {0, 2, []complex128{1 + 2i}, 1}, {1, 2, []complex128{1 + 2i}, 1}}, Complete: true}},
		{one("tier", `"a"`, `"c"`), []int{2}, [][]int{{0}, nil}, Report{Cells: 2, Missing: 1, Gaps: [][]complex128{{1 + 2i}}, Apart: true}},
		{one("none", "-", "true"), []int{0}, nil, Report{Complete: true, Apart: true}},
		{withTable(items(), 1, column{"number", []string{"1"}}, column{"none", []string{"-"}}), []int{3, 0}, nil, Report{Complete: true, Apart: true}},
		// Two gaps of one column are two boxes; the pairs of rules come by the first one, then by the second.
		{one("small", "1", "3", "[1..3]"), []int{7}, [][]int{nil, nil, {0, 2}, {2}, {1, 2}, nil, nil}, Report{Cells: 7, Missing: 4, Gaps: [][]complex128{{2i}, {5 + 7i}}, Overlaps: []Overlap{{0, 2, []complex128{2 + 3i}, 1}, {1, 2, []complex128{4 + 5i}, 1}}}},
		// Two columns: the first box is that of the first cell, the last column is extended first.
		{withTable(items(), 2, column{"boolean", []string{"-", "true"}}, column{"boolean", []string{"true", "-"}}), []int{2, 2}, [][]int{nil, {0}, {1}, {0, 1}}, Report{Cells: 4, Missing: 1, Gaps: [][]complex128{{1i, 1i}}, Overlaps: []Overlap{{0, 1, []complex128{1 + 2i, 1 + 2i}, 1}}}},
		{withTable(items(), 2, column{"number", []string{"not(5)", "-"}}, column{"boolean", []string{"-", "-"}}), []int{3, 2}, [][]int{{0, 1}, {0, 1}, {1}, {1}, {0, 1}, {0, 1}}, Report{Cells: 6, Overlaps: []Overlap{{0, 1, []complex128{1i, 2i}, 4}}, Complete: true}},
	} {
		c.want.Axes = c.axes
		if r, e := Analyze(c.m, "t"); !same(r, c.want) || e != api.OK {
			t.Errorf("case %d: %v %v, want %v", i, r, e, c.want)
		}
		if axes, l, e := Matches(c.m, "t"); !same(axes, c.axes) || !same(l, c.matches) || e != api.OK {
			t.Errorf("case %d: %v %v %v", i, axes, l, e)
		}
	}
	for _, c := range []struct {
		m    api.Model
		cell []int
		want []api.Value
	}{
		{one("number", "< 5", "> 5"), []int{1}, []api.Value{num(5)}}, {withTable(nil, 2), nil, nil}, {withTable(nil, 2), []int{}, nil}, {one("tier"), []int{1}, []api.Value{{Kind: api.Text, Text: "b"}}}, {one("other"), []int{0}, []api.Value{{Kind: api.Text, Text: "aa"}}}, {withTable(items(), 0, column{item: "sure"}, column{item: "small"}, column{item: "from"}), []int{0, 2, 0}, []api.Value{{Kind: api.Bool, Yes: true}, num(10), {Kind: api.Date, Day: 738886}}},
	} {
		if l, e := Tuple(c.m, "t", c.cell); !same(l, c.want) || e != api.OK {
			t.Error(c.cell, l, e)
		}
	}
}

// holdError holds the three functions of a table against an error, Tuple with any cell.
func holdError(t *testing.T, m api.Model, id string, want api.Errno) {
	t.Helper()
	if r, e := Analyze(m, id); e != want || e != api.OK && !same(r, Report{}) {
		t.Errorf("Analyze(%s, %s): %v %v, want %v", brief(m), id, brief(r), e, want)
	}
	if axes, l, e := Matches(m, id); e != want || e != api.OK && len(axes)+len(l) > 0 {
		t.Errorf("Matches(%s, %s): %v %v %v, want %v", brief(m), id, axes, brief(l), e, want)
	}
	for _, cell := range [][]int{nil, {0}, {0, 0}, {-1}, make([]int, 9)} {
		if l, e := Tuple(m, id, cell); want != api.OK && (e != want || len(l) > 0) {
			t.Errorf("Tuple(%s, %s, %v): %v %v, want %v", brief(m), id, cell, l, e, want)
		}
	}
}

// P24.2, P24.3, P1: the errors in their order.
func TestErrors(t *testing.T) {
	broken := one("number", "1")
	broken.Id = ""
	wide := func(n int, test string) column { return column{"number", slices.Repeat([]string{test}, n)} }
	for _, c := range []struct {
		m    api.Model
		id   string
		want api.Errno
	}{
		{one("number", "1"), "t", api.OK}, {broken, "t", api.ErrForm}, {broken, "z", api.ErrForm}, {broken, "e", api.ErrForm}, {api.Model{}, "", api.ErrForm}, {one("number", `"a"`), "t", api.ErrType}, {one("number", "z"), "e", api.ErrName}, {one("nothing", "1"), "t", api.ErrName}, {withTable(nil, 0, slices.Repeat([]column{{item: "number"}}, 9)...), "t", api.ErrLong}, {withTable(nil, 61), "t", api.ErrLong}, {withTable(nil, 60), "t", api.OK},
		{one("number", "x0"), "z", api.ErrName}, {one("number", "1"), "", api.ErrName}, {one("number", "1"), "i0", api.ErrName}, {one("number", "1"), "y", api.ErrName}, {withTable(nil, 0), "z", api.ErrName}, {one("number", "x0"), "e", api.ErrType}, {withTable(nil, 0), "e", api.ErrType},
		{one("number", "x0"), "t", api.ErrCannot}, {one("number", "1", "null"), "t", api.ErrCannot}, {one("", "1"), "t", api.ErrCannot}, {one("any"), "t", api.ErrCannot}, {one("list<number>", "-"), "t", api.ErrCannot}, {one("order", "-"), "t", api.ErrCannot}, {one("string", `< "a"`), "t", api.ErrCannot},
		// The columns in order.
		{withTable(items(), 1, wide(1, "1"), column{"", []string{"-"}}), "t", api.ErrCannot}, {withTable(items(), 1, column{"", []string{"-"}}, wide(1, "1")), "t", api.ErrCannot}, {withTable(items(), 3, wide(3, many(100)), wide(3, "x0")), "t", api.ErrLong}, {withTable(items(), 3, wide(3, "x0"), wide(3, many(100))), "t", api.ErrCannot}, {withTable(items(), 3, wide(3, "1"), wide(3, many(100))), "t", api.ErrLong}, {withTable(items(), 2, wide(2, "1"), wide(2, many(100))), "t", api.OK},
		// What can't be analyzed comes ahead of too many cells.
		{withTable(items(), 32, column{"number", numbers(32)}, column{"number", numbers(32)}, wide(32, "x0")), "t", api.ErrCannot}, {withTable(items(), 32, column{"number", numbers(32)}, column{"number", numbers(32)}), "t", api.ErrLong}, {withTable(items(), 31, column{"number", numbers(31)}, column{"number", numbers(31)}), "t", api.OK}, {withTable(items(), 31, column{"number", numbers(31)}, column{"number", numbers(31)}, column{"boolean", slices.Repeat([]string{"-"}, 31)}), "t", api.ErrLong}, {withTable(items(), 32, column{"number", numbers(32)}, column{"number", numbers(32)}, column{"none", slices.Repeat([]string{"-"}, 32)}), "t", api.OK},
	} {
		holdError(t, c.m, c.id, c.want)
	}
	for _, c := range []struct {
		m    api.Model
		cell []int
	}{
		{one("number", "1"), nil}, {one("number", "1"), []int{3}}, {one("number", "1"), []int{-1}}, {one("number", "1"), []int{0, 0}}, {one("none", "-"), []int{0}}, {one("none", "-"), nil}, {withTable(nil, 1), []int{0}}, {withTable(items(), 0, column{item: "number"}, column{item: "boolean"}), []int{1, 0}}, {withTable(items(), 0, column{item: "number"}, column{item: "boolean"}), []int{0, 2}}, {withTable(items(), 0, column{item: "number"}, column{item: "none"}), []int{0, 0}}, {one("number", "1"), []int{1 << 62}}, {one("number", "1"), []int{-1 << 63}}, {one("number", "1"), make([]int, 100000)},
	} {
		if l, e := Tuple(c.m, "t", c.cell); e != api.ErrForm || len(l) > 0 {
			t.Errorf("%s, %.100v: %v %v", brief(c.m), c.cell, l, e)
		}
	}
}

// many is a test of so many literals.
func many(n int) string {
	return strings.Join(slices.Repeat([]string{"1"}, n), ", ")
}

// P24.3, P1: tables of as many cells as there may be, and of one number more in a column.
func TestMostCells(t *testing.T) {
	words := func(n int) string {
		var list []string
		for i := range n {
			list = append(list, `"`+strconv.Itoa(i)+`"`)
		}
		return strings.Join(list, ", ")
	}
	for _, c := range []struct {
		a, b int
		want api.Errno
	}{{40, 100, api.OK}, {100, 40, api.OK}, {40, 101, api.ErrLong}, {101, 40, api.ErrLong}, {41, 100, api.ErrLong}} {
		list := []api.Item{{Name: "a", Type: api.Type{Kind: api.Text}, Allowed: words(c.a)}, {Name: "b", Type: api.Type{Kind: api.Text}, Allowed: words(c.b)}}
		m := withTable(list, 60, column{"a", slices.Repeat([]string{"-"}, 60)}, column{"b", slices.Repeat([]string{"-"}, 60)})
		if e := model.Validate(m); e != api.OK {
			t.Fatal(e)
		}
		holdError(t, m, "t", c.want)
		if c.want != api.OK {
			continue
		}
		r, _ := Analyze(m, "t")
		whole := []complex128{complex(0, float64(c.a)), complex(0, float64(c.b))}
		if r.Cells != 4000 || r.Missing != 0 || len(r.Gaps) != 0 || len(r.Overlaps) != 60*59/2 || slices.ContainsFunc(r.Overlaps, func(o Overlap) bool { return o.Cells != 4000 || !slices.Equal(o.Box, whole) }) {
			t.Error(brief(r))
		}
		if l, e := Tuple(m, "t", []int{c.a - 1, c.b - 1}); len(l) != 2 || l[1].Kind != api.Text || e != api.OK {
			t.Error(l, e)
		}
	}
}
