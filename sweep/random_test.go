package sweep

import (
	"fmt"
	"slices"
	"strings"
	"testing"

	"tariff/api"
	"tariff/axis"
	"tariff/model"
	"tariff/run"
	"tariff/value"
)

// kindOf is the kind of the values of an item's text.
func kindOf(item string) int {
	t, _, _ := model.Type(api.Model{Items: items()}, item)
	return t.Kind
}

// literal is a random literal of a kind.
func (s *source) literal(kind int) string {
	switch kind {
	case api.Bool:
		return pick(s, "true", "false")
	case api.Num:
		return pick(s, "0", "1", "5", "10", "-2.5", "9999999999999999999999999999999999")
	case api.Text:
		return pick(s, `"a"`, `"b"`, `""`, `"zz"`)
	}
	return pick(s, `@"0001-01-01"`, `@"2024-01-01"`, `@"2024-02-29"`, `@"9999-12-31"`)
}

// test is a random test of a kind.
func (s *source) test(kind int) string {
	test := s.literal(kind)
	for s.below(3) == 0 {
		test += ", " + s.literal(kind)
	}
	switch n := s.below(9); {
	case n < 2:
		return "-"
	case n == 2:
		return "not(" + test + ")"
	case n > 3 && (kind == api.Num || kind == api.Date):
		return pick(s, "< "+test, "<= "+test, "> "+test, ">= "+test, "["+s.literal(kind)+".."+s.literal(kind)+"]", "("+s.literal(kind)+".."+s.literal(kind)+")")
	}
	return test
}

// model is a random model with a decision t that has a table.
func (s *source) model() api.Model {
	rules := s.below(6)
	columns := make([]column, s.below(5))
	for i := range columns {
		columns[i].item = pick(s, "boolean", "number", "string", "date", "small", "tier", "other", "sure", "from", "none")
		if columns[i].item == "none" && s.below(5) > 0 {
			columns[i].item = "small"
		}
		for range rules {
			columns[i].tests = append(columns[i].tests, s.test(kindOf(columns[i].item)))
		}
	}
	return withTable(items(), rules, columns...)
}

// value is a random value of a kind, on its literals and beside them.
func (s *source) value(kind int) api.Value {
	text := s.literal(kind)
	switch kind {
	case api.Num:
		text = pick(s, text, text, "0.5", "-9999999999999999999999999999999999", "7", "-1", "4.999999999999999999", "11")
	case api.Text:
		text = pick(s, text, text, `"aa"`, `"é"`, `"`+strings.Repeat("z", 1000)+`"`)
	case api.Date:
		text = pick(s, text, text, `@"2023-12-31"`, `@"2024-01-02"`, `@"1900-03-01"`, `@"9999-12-30"`)
	}
	v, e := value.Read(text)
	if e != api.OK {
		panic(text)
	}
	return v
}

// asked is the rules that the layer below tells for some values, when the policy hides none of them.
func asked(m api.Model, values []api.Value) ([]int, api.Errno) {
	names := api.Value{Kind: api.Ctx, List: values}
	for i := range values {
		names.Names = append(names.Names, fmt.Sprint("x", i))
	}
	m.Decisions = slices.Clone(m.Decisions)
	m.Decisions[1].Table.Policy = api.Collect
	return run.Matches(m, "t", names)
}

// segments is the segments of each column.
func segments(t *testing.T, m api.Model) (segs [][]axis.Seg, axes []int) {
	t.Helper()
	for col := range m.Decisions[1].Table.Ins {
		list, _, e := axis.Column(m, "t", col)
		if e != api.OK {
			t.Fatal(brief(m), e)
		}
		segs, axes = append(segs, list), append(axes, len(list))
	}
	return segs, axes
}

// P24.2, P24.3: random tables under each policy, by the rules that match the values of each cell.
func TestRandom(t *testing.T) {
	s := &source{state: 242}
	var seen Report
	for i := range 400 {
		m := s.model()
		m.Decisions[1].Table.Policy = pick(s, 1, 2, 4, 5, 7, 8, 9, 10, 11)
		segs, axes := segments(t, m)
		all := tuples(make([]int, len(axes)), axes)
		if len(all) > 150 && i%40 > 0 || len(all) > 4000 {
			continue // the oracle takes its time
		}
		var matches [][]int
		for _, cell := range all {
			var values []api.Value
			for col, n := range cell {
				values = append(values, segs[col][n].Value)
			}
			if l, e := Tuple(m, "t", cell); !same(l, values) || e != api.OK {
				t.Errorf("%s: %v: %v %v", brief(m), cell, l, e)
			}
			rules, e := asked(m, values)
			if e != api.OK {
				t.Errorf("%s: %v: %v", brief(m), values, e)
			}
			matches = append(matches, rules)
		}
		if got, l, e := Matches(m, "t"); !same(got, axes) || !same(l, matches) || e != api.OK {
			t.Errorf("%s: %v %v %v, want %v %v", brief(m), got, brief(l), e, axes, brief(matches))
		}
		want := wantReport(axes, matches)
		if r, e := Analyze(m, "t"); !same(r, want) || e != api.OK {
			t.Errorf("%s: %v %v, want %v", brief(m), brief(r), e, brief(want))
		}
		seen.Missing, seen.Cells, seen.Overlaps, seen.Gaps = seen.Missing+want.Missing, seen.Cells+want.Cells, append(seen.Overlaps, want.Overlaps...), append(seen.Gaps, want.Gaps...)
	}
	if seen.Missing < 1000 || seen.Cells < 3000 || len(seen.Overlaps) < 300 || len(seen.Gaps) < 200 {
		t.Error(seen.Missing, seen.Cells, len(seen.Overlaps), len(seen.Gaps))
	}
}

// P24.4, P4: for random values, the rules that match are those of the cell of their segments.
func TestValues(t *testing.T) {
	s := &source{state: 244}
	allowed, refused := 0, 0
	for range 250 {
		m := s.model()
		segs, axes := segments(t, m)
		_, matches, e := Matches(m, "t")
		if e != api.OK {
			if e != api.ErrLong {
				t.Error(brief(m), e)
			}
			continue
		}
		r, _ := Analyze(m, "t")
		for range 40 {
			var values []api.Value
			for _, c := range m.Decisions[1].Table.Ins {
				values = append(values, s.value(kindOf(c.Item)))
			}
			rules, e := asked(m, values)
			if e == api.ErrInput {
				refused++
				continue
			}
			allowed++
			at := 0
			for col, v := range values {
				at = at*axes[col] + segmentOf(segs[col], v)
			}
			if e != api.OK || !same(rules, matches[at]) || r.Complete && len(rules) == 0 || r.Apart && len(rules) > 1 {
				t.Errorf("%s: %v: %v %v, want %v", brief(m), values, rules, e, matches[at])
			}
		}
	}
	if allowed < 1000 || refused < 1000 {
		t.Error(allowed, refused)
	}
}

// segmentOf is the segment of a value that is allowed.
func segmentOf(segs []axis.Seg, v api.Value) int {
	at := slices.IndexFunc(segs, func(s axis.Seg) bool { return s.Point && value.Same(s.Value, v) })
	if at >= 0 {
		return at
	}
	at = len(segs) - 1
	for v.Kind != api.Text && at > 0 {
		after, _ := value.Less(v, segs[at].Value)
		if !after.Yes {
			break
		}
		at--
	}
	return at
}
