package axis

import (
	"math"
	"reflect"
	"slices"
	"strings"
	"testing"

	"tariff/api"
	"tariff/value"
)

// P22.1: the chapter's examples, and the segments at the ends of each kind.
func TestExamples(t *testing.T) {
	low, high := "-9999999999999999999999999999999999", "9999999999999999999999999999999999"
	for _, c := range []struct {
		kind  int
		ends  []api.Value
		begin []api.Value
		point string // for each segment whether it is a point
	}{
		{api.Num, nums("5", "1", "5"), nums(low, "1", "1.000000000000000001", "5", "5.000000000000000001"), ".x.x."},
		{api.Num, nil, nums(low), "."},
		{api.Num, nums(low), nums(low, "-9999999999999999999999999999999998"), "x."},
		{api.Num, nums(high), nums(low, high), ".x"},
		{api.Num, nums(high, low), nums(low, "-9999999999999999999999999999999998", high), "x.x"},
		{api.Num, nums("1", "1.000000000000000001"), nums(low, "1", "1.000000000000000001", "1.000000000000000002"), ".xx."},
		{api.Num, nums("1.000000000000000002", "1"), nums(low, "1", "1.000000000000000001", "1.000000000000000002", "1.000000000000000003"), ".x.x."},
		{api.Num, nums("-0.000000000000000001", "0", "0.000000000000000001"), nums(low, "-0.000000000000000001", "0", "0.000000000000000001", "0.000000000000000002"), ".xxx."},
		{api.Num, nums("10000000000000000", "9999999999999999.999999999999999999"), nums(low, "9999999999999999.999999999999999999", "10000000000000000", "10000000000000000.00000000000000001"), ".xx."},
		{api.Num, nums("-10000000000000000", "-10000000000000000.00000000000000001", "1.5"), nums(low, "-10000000000000000.00000000000000001", "-10000000000000000", "-9999999999999999.999999999999999999", "1.5", "1.500000000000000001"), ".xx.x."},
		{api.Date, days(1), days(1, 2), "x."}, {api.Date, days(1, 2), days(1, 2, 3), "xx."}, {api.Date, days(2, 1, 2), days(1, 2, 3), "xx."}, {api.Date, nil, days(1), "."}, {api.Date, days(2), days(1, 2, 3), ".x."}, {api.Date, days(3652059), days(1, 3652059), ".x"}, {api.Date, days(3652058), days(1, 3652058, 3652059), ".x."}, {api.Date, days(3652059, 3652058, 1), days(1, 2, 3652058, 3652059), "x.xx"}, {api.Date, days(9, 7), days(1, 7, 8, 9, 10), ".x.x."},
		{api.Text, texts("b", "a"), texts("a", "b", ""), "xx."}, {api.Text, texts(""), texts("", "a"), "x."}, {api.Text, nil, texts(""), "."}, {api.Text, texts("aa", "", "aa"), texts("", "aa", "a"), "xx."}, {api.Text, texts("aaa", "a", "", "ab"), texts("", "a", "aaa", "ab", "aa"), "xxxx."}, {api.Text, texts("aa", "a!", "", "Z", "a"), texts("", "Z", "a", "a!", "aa", "aaa"), "xxxxx."}, {api.Text, texts("é", "z", "ab", "abc"), texts("ab", "abc", "z", "é", ""), "xxxx."},
		{api.Bool, nil, []api.Value{truthOf(false), truthOf(true)}, "xx"}, {api.Bool, []api.Value{truthOf(true)}, []api.Value{truthOf(false), truthOf(true)}, "xx"}, {api.Bool, []api.Value{truthOf(true), truthOf(false), truthOf(true)}, []api.Value{truthOf(false), truthOf(true)}, "xx"},
	} {
		segs, e := Cut(c.kind, c.ends)
		var begin []api.Value
		point := ""
		for _, s := range segs {
			begin = append(begin, s.Value)
			point += map[bool]string{false: ".", true: "x"}[s.Point]
		}
		if e != api.OK || !reflect.DeepEqual(begin, c.begin) || point != c.point {
			t.Error(c.kind, brief(c.ends), brief(segs), e)
		}
		hold(t, c.kind, c.ends, begin...)
		hold(t, c.kind, begin, begin...)
	}
	for _, c := range []struct {
		kind int
		ends []api.Value
		v    api.Value
		want int
	}{
		{api.Num, nums("1", "5"), num("3"), 2}, {api.Num, nums("5", "1", "1"), num("3"), 2}, {api.Num, nums("1", "5"), num("1"), 1}, {api.Num, nums("1", "5"), num("-1"), 0}, {api.Num, nums("1", "5"), num("5"), 3}, {api.Num, nums("1", "5"), num("5.1"), 4}, {api.Num, nil, num("7"), 0}, {api.Text, texts("a"), text("zz"), 1}, {api.Text, texts("a"), text(""), 1}, {api.Text, texts("a", "zz"), text("zz"), 1}, {api.Text, nil, text("a"), 0}, {api.Bool, nil, truthOf(false), 0}, {api.Bool, nil, truthOf(true), 1}, {api.Date, days(1), day(1), 0}, {api.Date, days(1), day(2), 1}, {api.Date, days(5), day(3652059), 2},
	} {
		if at, e := Find(c.kind, c.ends, c.v); at != c.want || e != api.OK {
			t.Error(c.kind, brief(c.ends), brief(c.v), at, e)
		}
	}
}

// P22.1: random ends of each kind, and values on, beside and between them.
func TestRandom(t *testing.T) {
	s := &source{state: 22}
	for i := range 1500 {
		kind := 1 + s.below(4)
		var ends []api.Value
		for range pick(s, 0, 1, 2, 3, 5, 8, 1+s.below(200)) {
			ends = append(ends, s.value(kind))
			if v, ok := neighbour(ends[len(ends)-1], 1-2*s.below(2)); ok && s.below(3) == 0 && len(ends) < 200 {
				ends = append(ends, v)
			}
		}
		ends = ends[:min(len(ends), 200)]
		values := []api.Value{s.value(kind), s.value(kind)}
		for k, v := range ends {
			if k > 9 && i%50 > 0 {
				break
			}
			values = append(values, v)
			for _, by := range []int{-1, 1} {
				if v, ok := neighbour(v, by); ok {
					values = append(values, v)
				}
			}
		}
		if kind == api.Num || kind == api.Date {
			values = append(values, first(kind), last(kind))
		}
		if e := hold(t, kind, ends, values...); e != api.OK {
			t.Fatal(e)
		}
	}
}

// neighbour is a value beside another one of any kind.
func neighbour(v api.Value, by int) (api.Value, bool) {
	switch {
	case v.Kind == api.Bool:
		return truthOf(!v.Yes), true
	case v.Kind != api.Text:
		return beside(v, by)
	case by > 0:
		return text(v.Text + "a"), true
	}
	return text(v.Text[:max(len(v.Text)-1, 0)]), len(v.Text) > 0 && v.Text[len(v.Text)-1] < 0x80
}

// P22.1: the segments have the values of the kind, each of them in one segment alone: every day, with random ends.
func TestEveryDay(t *testing.T) {
	ends := days(1, 4, 3, 700000, 700001, 3652058, 4)
	segs, e := Cut(api.Date, ends)
	if e != api.OK {
		t.Fatal(e)
	}
	for n, at := 1, -1; n <= 3652059; n++ {
		if at+1 < len(segs) && segs[at+1].Value.Day == n {
			at++
		}
		if n%1000 > 1 && n > 10 && n < 3652050 {
			continue // most days are like those beside them
		}
		isEnd := slices.ContainsFunc(ends, func(v api.Value) bool { return v.Day == n })
		if got, e := Find(api.Date, ends, day(n)); got != at || e != api.OK || segs[at].Point != isEnd {
			t.Error(n, got, at, e)
		}
	}
}

// P22.1, P1: as many ends as there may be, and one more.
func TestMostEnds(t *testing.T) {
	for _, n := range []int{199, 200, 201, 5000} {
		want := api.OK
		if n > 200 {
			want = api.ErrLong
		}
		for _, c := range [][]api.Value{slices.Repeat(nums("1"), n), slices.Repeat(days(7), n), slices.Repeat(texts("a"), n), slices.Repeat([]api.Value{truthOf(true)}, n), slices.Repeat([]api.Value{{Kind: api.List}}, n), slices.Repeat([]api.Value{{Kind: -1}}, n)} {
			if e := hold(t, c[0].Kind, c, c[0]); e != want && c[0].Kind != api.List && c[0].Kind >= 0 {
				t.Error(n, e)
			}
		}
	}
	var numbers, dates []api.Value
	for n := range 200 {
		dates = append(dates, day(3652059-3*n))
		v, _ := value.Read(strings.Repeat("9", 1+n%16) + "." + strings.Repeat("1", 1+n/16))
		numbers = append(numbers, v)
	}
	for i, c := range [][]api.Value{numbers, dates, many(0, 200), many(1, 201), many(801, 1001), many(199, 200)} {
		if e := hold(t, c[0].Kind, c, c...); e != api.OK {
			t.Error(i, e)
		}
		if e := hold(t, c[0].Kind, slices.Repeat(c, 201)[:201], c...); e != api.ErrLong {
			t.Error(i, e)
		}
	}
	if segs, e := Cut(api.Text, many(0, 200)); e != api.OK || len(segs) != 201 || segs[200].Value.Text != strings.Repeat("a", 200) {
		t.Error(brief(segs), e)
	}
}

// deep is lists within one another; wide is a list of nulls.
func deep(n int) api.Value {
	v := api.Value{Kind: api.List}
	for range n - 1 {
		v = api.Value{Kind: api.List, List: []api.Value{v}}
	}
	return v
}

func wide(n int) api.Value {
	return api.Value{Kind: api.List, List: make([]api.Value, n)}
}

// P22.1, P1: each two values of some, right and wrong, as ends and as what is looked for, with each kind.
func TestErrors(t *testing.T) {
	loop := api.Value{Kind: api.List, List: make([]api.Value, 1)}
	loop.List[0] = loop
	all := []api.Value{{}, truthOf(true), num("1"), text("a"), day(1), {Kind: api.List}, {Kind: api.Ctx}, wide(999), wide(1000), deep(16), deep(17), loop,
		{Kind: 7}, {Kind: -1}, {Kind: math.MaxInt}, {Kind: api.Text, Text: "\xff"}, text(strings.Repeat("a", 1000)), text(strings.Repeat("a", 1001)), day(0), day(3652059), day(3652060), {Kind: api.Num, Num: api.Dec{Coef: api.Wide{Lo: 10}, Scale: 1}}, {Kind: api.Num, Num: api.Dec{Neg: true}}, {Kind: api.Num, Text: "a"}, {Kind: api.Bool, Day: 1}, {Kind: api.Text, Yes: true}, {Kind: api.Date, Num: num("1").Num}, {Kind: api.Text, List: make([]api.Value, 1)}, {Kind: api.Date, Names: []string{"a"}}}
	seen := map[api.Errno]int{}
	for kind := -1; kind <= 8; kind++ {
		seen[hold(t, kind, nil, all...)]++
		for _, a := range all {
			seen[hold(t, kind, []api.Value{a}, all...)]++
			for _, b := range all {
				seen[hold(t, kind, []api.Value{a, b})]++
			}
			if e := hold(t, kind, slices.Repeat([]api.Value{a}, 201), all...); e != api.ErrLong {
				t.Error(e)
			}
		}
	}
	for _, kind := range []int{math.MinInt, math.MaxInt} {
		seen[hold(t, kind, nil, all...)]++
	}
	if seen[api.OK] < 10 || seen[api.ErrType] < 100 || seen[api.ErrLong] < 100 || seen[api.ErrDeep] < 100 || seen[api.ErrForm] < 100 {
		t.Error(seen)
	}
}
