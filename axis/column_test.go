package axis

import (
	"cmp"
	"reflect"
	"slices"
	"strconv"
	"strings"
	"testing"

	"tariff/api"
	"tariff/model"
	"tariff/value"
)

// kindNames is the names of the kinds from Null on.
func kindNames() []string { return []string{"any", "boolean", "number", "string", "date"} }

// sample is unary tests, with what the chapter asks of them.
type sample struct {
	text   string
	cannot bool // not plain, or of texts with a test other than that of equality
	ends   []api.Value
	pass   func(v api.Value) bool
}

// side is -1, 0 or 1, if the first is below, equal to or above the second.
func side(a, b api.Value) int {
	switch a.Kind {
	case api.Bool:
		return cmp.Compare(map[bool]int{true: 1}[a.Yes], map[bool]int{true: 1}[b.Yes])
	case api.Text:
		return strings.Compare(a.Text, b.Text)
	}
	return rank(a).Cmp(rank(b))
}

// part is a random test of one or two literals.
func (s *source) part(kind int) sample {
	low, high := s.value(kind), s.value(kind)
	a, _ := value.Print(low)
	b, _ := value.Print(high)
	if kind == api.Num && s.below(9) == 0 {
		a, low = "-0", num("0")
	}
	one := []api.Value{low}
	switch n := s.below(8); {
	case kind == api.Bool || kind == api.Text && s.below(20) > 0 || n < 3:
		return sample{a, false, one, func(v api.Value) bool { return side(v, low) == 0 }}
	case n == 3:
		return sample{"< " + a, kind == api.Text, one, func(v api.Value) bool { return side(v, low) < 0 }}
	case n == 4:
		return sample{"<= " + a, kind == api.Text, one, func(v api.Value) bool { return side(v, low) <= 0 }}
	case n == 5:
		return sample{"> " + a, kind == api.Text, one, func(v api.Value) bool { return side(v, low) > 0 }}
	case n == 6:
		return sample{">= " + a, kind == api.Text, one, func(v api.Value) bool { return side(v, low) >= 0 }}
	}
	from, to := pick(s, "[", "("), pick(s, "]", ")")
	pass := func(v api.Value) bool {
		return (side(v, low) > 0 || from == "[" && side(v, low) == 0) && (side(v, high) < 0 || to == "]" && side(v, high) == 0)
	}
	return sample{from + a + ".." + b + to, kind == api.Text, []api.Value{low, high}, pass}
}

// tests is random unary tests, one in so many of which are not plain.
func (s *source) tests(kind, others int) sample {
	switch n := s.below(others); {
	case n == 0:
		return sample{pick(s, "x", "null", "not(x)", "x, x"), true, nil, nil}
	case n%6 == 1:
		return sample{"-", false, nil, func(api.Value) bool { return true }}
	}
	whole := s.part(kind)
	for s.below(2) == 0 {
		old, more := whole, s.part(kind)
		whole = sample{old.text + ", " + more.text, old.cannot || more.cannot, slices.Concat(old.ends, more.ends), func(v api.Value) bool { return old.pass(v) || more.pass(v) }}
	}
	if s.below(4) == 0 {
		pass := whole.pass
		whole.text, whole.pass = "not("+whole.text+")", func(v api.Value) bool { return !pass(v) }
	}
	return whole
}

// table is a model with a decision t that has a table of these columns; each row is a rule's tests. The
// input x is of any type.
func table(items []api.Item, ins []string, rows ...[]string) api.Model {
	x := api.Table{Policy: api.Collect, Outs: []api.Column{{Text: "out"}}}
	for _, item := range ins {
		x.Ins = append(x.Ins, api.Column{Text: "x", Item: item})
	}
	for i, row := range rows {
		x.Rules = append(x.Rules, api.Rule{Tests: row, Says: []string{strconv.Itoa(i)}})
	}
	return api.Model{Id: "m", Items: items, Inputs: []api.Input{{Id: "i", Name: "x"}}, Decisions: []api.Decision{{Id: "e", Name: "e", Text: "1"}, {Id: "t", Name: "y", Needs: []string{"i"}, Table: x}}}
}

// P22.2: random columns beside others: the segments that are allowed, and what each rule matches.
func TestColumnRandom(t *testing.T) {
	s := &source{state: 222}
	seen := map[api.Errno]int{}
	for range 1200 {
		kind := 1 + s.below(4)
		others := pick(s, 12, 1000)
		allowed := sample{"", false, nil, func(api.Value) bool { return true }}
		items := []api.Item{{Name: "odd", Type: api.Type{Kind: kind}, Allowed: "-"}, {Name: "low", Type: api.Type{Kind: kind}}}
		if s.below(3) > 0 {
			allowed = s.tests(kind, others)
			for allowed.pass == nil {
				allowed = s.tests(kind, others)
			}
			items[1].Allowed = allowed.text
		}
		item := "low"
		if allowed.text == "" && s.below(2) == 0 {
			item = pick(s, "odd", kindNames()[kind])
		}
		ins := []string{"", item, "list<number>"}
		var rows [][]string
		var tests []sample
		for range s.below(6) {
			test := s.tests(kind, others)
			tests = append(tests, test)
			rows = append(rows, []string{"x", test.text, "-"})
		}
		m := table(items, ins, rows...)
		if e := model.Validate(m); e != api.OK {
			t.Fatal(e, brief(m))
		}
		seen[holdColumn(t, s, m, kind, allowed, tests)]++
		for _, col := range []int{0, 2} {
			if segs, sets, e := Column(m, "t", col); len(segs) != 0 || len(sets) != 0 || e != api.ErrCannot {
				t.Error(brief(m), segs, sets, e)
			}
		}
	}
	if seen[api.OK] < 500 || seen[api.ErrCannot] < 100 {
		t.Error(seen)
	}
}

// holdColumn holds Column for the column 1 against what is wanted, and tells the error that is wanted.
func holdColumn(t *testing.T, s *source, m api.Model, kind int, allowed sample, tests []sample) api.Errno {
	t.Helper()
	segs, sets, e := Column(m, "t", 1)
	ends, want := []api.Value(nil), api.OK
	for _, x := range append([]sample{allowed}, tests...) {
		ends = append(ends, x.ends...)
		if x.cannot {
			want = api.ErrCannot
		}
	}
	if e != want || e != api.OK && len(segs)+len(sets) > 0 {
		t.Errorf("%s: %s %v %v, want %v", brief(m), brief(segs), sets, e, want)
	}
	if want != api.OK || e != api.OK {
		return want
	}
	all := wantCut(kind, ends)
	var wantSegs []Seg
	wantSets := make([][]int, len(tests))
	for _, x := range all {
		if !allowed.pass(x.Value) {
			continue
		}
		for i, test := range tests {
			if test.pass(x.Value) {
				wantSets[i] = append(wantSets[i], len(wantSegs))
			}
		}
		wantSegs = append(wantSegs, x)
	}
	if !reflect.DeepEqual(segs, wantSegs) && len(segs)+len(wantSegs) > 0 || !reflect.DeepEqual(sets, wantSets) && len(sets)+len(wantSets) > 0 {
		t.Errorf("%s: %s %v, want %s %v", brief(m), brief(segs), sets, brief(wantSegs), wantSets)
		return want
	}
	// Each value that is allowed is in one of the segments, and each test's result is that of the segment.
	for range 20 {
		v := s.value(kind)
		found := all[wantFind(all, v)].Value
		at := slices.IndexFunc(segs, func(x Seg) bool { return reflect.DeepEqual(x.Value, found) })
		if allowed.pass(v) != (at >= 0) {
			t.Errorf("%s: %s is allowed, or is not", brief(m), brief(v))
		}
		for i, test := range tests {
			if at >= 0 && test.pass(v) != slices.Contains(sets[i], at) {
				t.Errorf("%s: %s: rule %d", brief(m), brief(v), i)
			}
		}
	}
	return want
}

// P22.2: the chapter's example, and some more.
func TestColumnExamples(t *testing.T) {
	small := []api.Item{{Name: "small", Type: api.Type{Kind: api.Num}, Allowed: "[0..10]"}, {Name: "tier", Type: api.Type{Kind: api.Text}, Allowed: `"a", "b"`}, {Name: "other", Type: api.Type{Kind: api.Text}, Allowed: `not("", "a")`}, {Name: "none", Type: api.Type{Kind: api.Bool}, Allowed: "not(true, false)"}, {Name: "sure", Type: api.Type{Kind: api.Bool}, Allowed: "true"}}
	low := "-9999999999999999999999999999999999"
	for _, c := range []struct {
		item  string
		tests []string
		begin []api.Value
		sets  [][]int
	}{
		{"small", []string{"< 5", ">= 5"}, nums("0", "0.000000000000000001", "5", "5.000000000000000001", "10"), [][]int{{0, 1}, {2, 3, 4}}},
		{"small", nil, nums("0", "0.000000000000000001", "10"), nil},
		{"small", []string{"-", "not(3)", "20", "[10..20]"}, nums("0", "0.000000000000000001", "3", "3.000000000000000001", "10"), [][]int{{0, 1, 2, 3, 4}, {0, 1, 3, 4}, nil, {4}}},
		{"number", []string{"< 5", "> 5"}, nums(low, "5", "5.000000000000000001"), [][]int{{0}, {2}}},
		{"number", []string{"-"}, nums(low), [][]int{{0}}}, {"number", nil, nums(low), nil},
		{"number", []string{"[5..1]", "(1..5)"}, nums(low, "1", "1.000000000000000001", "5", "5.000000000000000001"), [][]int{nil, {2}}},
		{"tier", []string{`"b"`, `"c"`, `not("a")`}, texts("a", "b"), [][]int{{1}, nil, {1}}},
		{"other", []string{`"b"`, `"c"`, `not("a")`, `"a"`, "-"}, texts("b", "c", "aa"), [][]int{{0}, {1}, {0, 1, 2}, nil, {0, 1, 2}}},
		{"string", []string{`"b", ""`, `not("b")`}, texts("", "b", "a"), [][]int{{0, 1}, {0, 2}}},
		{"none", []string{"-", "true"}, nil, [][]int{nil, nil}},
		{"sure", []string{"true", "false", "not(false)"}, []api.Value{truthOf(true)}, [][]int{{0}, nil, {0}}},
		{"boolean", []string{"true", "-", "not(true, false)"}, []api.Value{truthOf(false), truthOf(true)}, [][]int{{1}, {0, 1}, nil}},
		{"date", []string{`@"0001-01-01"`, `> @"0001-01-02"`}, days(1, 2, 3), [][]int{{0}, {2}}},
	} {
		var rows [][]string
		for _, test := range c.tests {
			rows = append(rows, []string{test})
		}
		segs, sets, e := Column(table(small, []string{c.item}, rows...), "t", 0)
		var begin []api.Value
		for _, s := range segs {
			begin = append(begin, s.Value)
		}
		if e != api.OK || !reflect.DeepEqual(begin, c.begin) || !reflect.DeepEqual(sets, c.sets) {
			t.Errorf("%s %q: %s %v %v", c.item, c.tests, brief(segs), sets, e)
		}
	}
}

// literals is unary tests of so many literals.
func literals(n int, literal string) string {
	return strings.Join(slices.Repeat([]string{literal}, n), ", ")
}

// P22.2, P1: the errors in their order.
func TestColumnErrors(t *testing.T) {
	items := []api.Item{{Name: "low", Type: api.Type{Kind: api.Num}, Allowed: literals(99, "1")}, {Name: "order", Type: api.Type{Kind: api.Text}, Allowed: `>= "a"`}, {Name: "word", Type: api.Type{Kind: api.Text}, Allowed: `not("a")`}, {Name: "many", Type: api.Type{Kind: api.List, Of: api.Num}}, {Name: "what"}}
	rows := func(n int, more ...string) [][]string {
		list := [][]string{{literals(n, "1")}}
		for _, test := range more {
			list = append(list, []string{test})
		}
		return list
	}
	two := []string{"number", "string"}
	for i, c := range []struct {
		m    api.Model
		id   string
		col  int
		want api.Errno
	}{
		{table(nil, two, []string{"1", "-"}), "t", 0, api.OK}, {table(nil, two, []string{"1", "-"}), "t", 1, api.OK}, {table(nil, two, []string{"1", "-"}), "t", 2, api.ErrArg}, {table(nil, two, []string{"1", "-"}), "t", -1, api.ErrArg}, {table(nil, two), "t", 1 << 62, api.ErrArg}, {table(nil, two), "t", -1 << 63, api.ErrArg}, {table(nil, nil), "t", 0, api.ErrArg},
		// A model that is not valid comes ahead of all.
		{table(nil, two, []string{"1"}), "t", 0, api.ErrForm}, {table(nil, two, []string{"1", "x+x"}), "z", -1, api.ErrForm}, {table(nil, two, []string{`"a"`, "x"}), "t", 9, api.ErrType}, {table(nil, two, []string{"z", "x"}), "e", 0, api.ErrName}, {table(nil, []string{"word"}), "t", 0, api.ErrName}, {api.Model{}, "t", 0, api.ErrForm}, {table(nil, slices.Repeat(two, 5)), "t", 0, api.ErrLong},
		{table(nil, two, []string{"1", "x"}), "z", -1, api.ErrName}, {table(nil, two), "", 0, api.ErrName}, {table(nil, two), "i", 0, api.ErrName}, {table(nil, two), "y", 0, api.ErrName}, {table(nil, two), "T", 0, api.ErrName},
		{table(nil, two), "e", 0, api.ErrType}, {table(nil, two), "e", -1, api.ErrType}, {table(nil, []string{"any"}, []string{"x"}), "t", 1, api.ErrArg},
		{table(nil, []string{""}), "t", 0, api.ErrCannot}, {table(nil, []string{"any"}, []string{"1"}), "t", 0, api.ErrCannot}, {table(nil, []string{"list<any>"}), "t", 0, api.ErrCannot}, {table(nil, []string{"list<number>"}, []string{"-"}), "t", 0, api.ErrCannot}, {table(items, []string{"many"}), "t", 0, api.ErrCannot}, {table(items, []string{"what"}), "t", 0, api.ErrCannot},
		{table(nil, two, []string{"x", "-"}), "t", 0, api.ErrCannot}, {table(nil, two, []string{"x", "-"}), "t", 1, api.OK}, {table(nil, two, []string{"-", "-"}, []string{"-", "-"}, []string{"-", "x"}), "t", 0, api.OK}, {table(nil, two, []string{"-", "-"}, []string{"-", "-"}, []string{"-", "x"}), "t", 1, api.ErrCannot}, {table(nil, []string{"number"}, rows(1, "1 + 1")...), "t", 0, api.ErrCannot}, {table(nil, []string{"number"}, rows(1, "null")...), "t", 0, api.ErrCannot}, {table(nil, []string{"number"}, rows(1, "--1")...), "t", 0, api.ErrCannot}, {table(nil, []string{"number"}, rows(1, "-1")...), "t", 0, api.OK}, {table(nil, []string{"number"}, rows(1, "not(1, x)")...), "t", 0, api.ErrCannot}, {table(nil, []string{"number"}, rows(1, "[1..x]")...), "t", 0, api.ErrCannot},
		{table(nil, two, []string{"< 1", `< "a"`}), "t", 0, api.OK}, {table(nil, two, []string{"< 1", `< "a"`}), "t", 1, api.ErrCannot}, {table(nil, two, []string{"-", `<= "a"`}), "t", 1, api.ErrCannot}, {table(nil, two, []string{"-", `> "a"`}), "t", 1, api.ErrCannot}, {table(nil, two, []string{"-", `>= "a"`}), "t", 1, api.ErrCannot}, {table(nil, two, []string{"-", `["a".."b"]`}), "t", 1, api.ErrCannot}, {table(nil, two, []string{"-", `"b", not("a")`}), "t", 1, api.ErrForm}, {table(nil, two, []string{"-", `not("b", < "a")`}), "t", 1, api.ErrCannot}, {table(nil, two, []string{"-", `"a", "b"`}, []string{"-", `"c", ["a".."b"]`}), "t", 1, api.ErrCannot}, {table(nil, two, []string{"-", `"a", "b"`}, []string{"-", `not("a", "c")`}), "t", 1, api.OK},
		{table(items, []string{"order"}), "t", 0, api.ErrCannot}, {table(items, []string{"order"}, []string{`"b"`}), "t", 0, api.ErrCannot}, {table(items, []string{"word"}, []string{`"b"`}), "t", 0, api.OK}, {table(items, []string{"string"}, []string{`"b"`}), "t", 0, api.OK},
		// Ends are counted as often as they occur, those of what is allowed too.
		{table(items, []string{"number"}, rows(100, literals(100, "1"))...), "t", 0, api.OK}, {table(items, []string{"number"}, rows(100, literals(101, "1"))...), "t", 0, api.ErrLong}, {table(items, []string{"number"}, rows(100, literals(50, "[1..2]"))...), "t", 0, api.OK}, {table(items, []string{"number"}, rows(101, literals(50, "[1..2]"))...), "t", 0, api.ErrLong}, {table(items, []string{"low"}, rows(100, "1")...), "t", 0, api.OK}, {table(items, []string{"low"}, rows(100, "1", "1")...), "t", 0, api.ErrLong}, {table(items, []string{"low"}, rows(102)...), "t", 0, api.ErrLong}, {table(items, []string{"low"}, rows(101)...), "t", 0, api.OK}, {table(items, []string{"low"}, rows(100, "not(1)", "-")...), "t", 0, api.OK},
		{table(items, []string{"number"}, rows(149, literals(149, "1"), "x")...), "t", 0, api.ErrCannot}, {table(items, []string{"number"}, append([][]string{{"x"}}, rows(149, literals(149, "1"))...)...), "t", 0, api.ErrCannot},
		{table(items, []string{"boolean"}, []string{literals(140, "true")}, []string{literals(60, "false")}), "t", 0, api.OK}, {table(items, []string{"boolean"}, []string{literals(140, "true")}, []string{literals(61, "false")}), "t", 0, api.ErrLong}, {table(items, []string{"string"}, []string{literals(140, `"a"`)}, []string{literals(61, `"a"`)}), "t", 0, api.ErrLong}, {table(items, []string{"string"}, []string{literals(140, `"a"`)}, []string{literals(61, `"a"`)}, []string{`< "a"`}), "t", 0, api.ErrCannot},
	} {
		segs, sets, e := Column(c.m, c.id, c.col)
		if e != c.want || (e == api.OK) != (len(segs) > 0) || e != api.OK && len(sets) > 0 {
			t.Errorf("case %d: %s %v %v, want %v", i, brief(segs), sets, e, c.want)
		}
	}
}
