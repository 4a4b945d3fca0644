package hit

import (
	"fmt"
	"math"
	"slices"
	"strings"
	"testing"
	"unsafe"

	"tariff/api"
	"tariff/value"
)

const most = "9999999999999999999999999999999999"

// P18.1: each policy with one name, by what the chapter says of it.
func TestDecideExamples(t *testing.T) {
	a, b := `"a"`, `"b"`
	none, ab := [][]api.Value{nil}, [][]api.Value{row(a, b)}
	for i, c := range []struct {
		policy      int
		order, rows [][]api.Value
		other       []api.Value
		want        string
		e           api.Errno
	}{
		{1, none, rows("5"), nil, "5", 0}, {1, none, rows("5", "5"), nil, "", api.ErrUnique}, {1, none, nil, row("7"), "7", 0}, {1, none, nil, nil, "null", 0}, {1, none, rows("5"), row("7"), "5", 0}, {1, none, rows("null", "null"), nil, "", api.ErrUnique}, {1, ab, rows(a, "1"), nil, "", api.ErrUnique},
		{2, none, rows("5", "5"), nil, "5", 0}, {2, none, rows("5", "6"), nil, "", api.ErrAny}, {2, none, rows("5", "5", "5", "6"), nil, "", api.ErrAny}, {2, none, rows("5", `"5"`), nil, "", api.ErrAny}, {2, none, rows("null", "null"), nil, "null", 0}, {2, none, rows("null", "5"), nil, "", api.ErrAny}, {2, none, nil, row("7"), "7", 0}, {2, none, nil, nil, "null", 0}, {2, ab, rows(b, a), nil, "", api.ErrAny},
		// What is equal need not be the same.
		{2, none, rows("{a: 1, b: 2}", "{b: 2, a: 1}"), nil, "", api.ErrAny}, {2, none, rows("{a: [1]}", "{a: [1]}"), nil, "{a: [1]}", 0},
		{3, ab, rows(b, a), nil, a, 0}, {3, ab, rows("1", b), nil, b, 0}, {3, ab, rows("1", "2"), nil, "1", 0}, {3, none, rows(b, a), nil, b, 0}, {3, ab, nil, row(b), b, 0}, {3, ab, nil, nil, "null", 0}, {3, [][]api.Value{row("{a: 1, b: 2}")}, rows("{b: 2, a: 1}", "{a: 1, b: 2}"), nil, "{a: 1, b: 2}", 0},
		{4, none, rows("5", "6"), nil, "5", 0}, {4, ab, rows(b, a), nil, b, 0}, {4, none, nil, row("7"), "7", 0}, {4, none, nil, nil, "null", 0}, {4, none, rows("[1, 2]"), nil, "[1, 2]", 0},
		{5, none, rows("5", "6", "5"), nil, "[5, 6, 5]", 0}, {5, ab, rows(b, a), nil, `["b", "a"]`, 0}, {5, none, rows("5"), nil, "[5]", 0}, {5, none, nil, row("7"), "[7]", 0}, {5, none, nil, nil, "[]", 0}, {5, none, rows("null"), nil, "[null]", 0},
		{6, ab, rows(`"c"`, b, a, b), nil, `["a", "b", "b", "c"]`, 0}, {6, none, rows(b, a), nil, `["b", "a"]`, 0}, {6, ab, nil, row(b), `["b"]`, 0}, {6, ab, nil, nil, "[]", 0}, {6, ab, rows("2", "1"), nil, "[2, 1]", 0},
		{7, ab, rows(b, a, "1"), nil, `["b", "a", 1]`, 0}, {7, none, nil, row("7"), "[7]", 0}, {7, none, nil, nil, "[]", 0},
		{8, none, rows("1.5", "2"), nil, "3.5", 0}, {8, none, rows("1", a), nil, "null", 0}, {8, none, rows(a), nil, "null", 0}, {8, none, rows("1", "null"), nil, "null", 0}, {8, none, rows("[1]"), nil, "null", 0}, {8, none, rows("2"), nil, "2", 0}, {8, none, nil, row("7"), "7", 0}, {8, none, nil, row(a), "null", 0}, {8, none, nil, nil, "null", 0}, {8, none, rows("1", "-1"), nil, "0", 0},
		// The sum is made from the first one on; of what is no number there is none, whatever its error.
		{8, none, rows(most, "1"), nil, "", api.ErrOver}, {8, none, rows(most, "-1", "1"), nil, most, 0}, {8, none, rows(most, "1", "-1"), nil, "", api.ErrOver}, {8, none, rows(most, "1", a), nil, "null", 0}, {8, none, rows(most, "0.4", "0.4"), nil, most, 0}, {8, none, rows("0.4", "0.4", most), nil, "", api.ErrOver},
		{9, none, rows("3", "2"), nil, "2", 0}, {9, none, rows("2", "-3", "2.5"), nil, "-3", 0}, {9, none, rows("3", a), nil, "null", 0}, {9, none, rows("3", "null"), nil, "null", 0}, {9, none, nil, row("7"), "7", 0}, {9, none, nil, nil, "null", 0}, {9, none, rows(a, b), nil, "null", 0},
		{10, none, rows("3", "2"), nil, "3", 0}, {10, none, rows("2", "-3", "2.5"), nil, "2.5", 0}, {10, none, rows("3", a), nil, "null", 0}, {10, none, nil, row("7"), "7", 0}, {10, none, nil, nil, "null", 0}, {10, none, rows(`@"2024-01-01"`), nil, "null", 0},
		{11, none, rows("3", "2"), nil, "2", 0}, {11, none, rows("null", a, "[1]"), nil, "3", 0}, {11, none, nil, row("7"), "1", 0}, {11, none, nil, nil, "0", 0},
	} {
		v, e := Decide(c.policy, []string{"out"}, c.order, c.rows, c.other)
		if e != c.e || e == api.OK && print(v) != c.want || e != api.OK && !value.Same(v, api.Value{}) {
			t.Errorf("case %d: %s %v, want %s %v", i, print(v), e, c.want, c.e)
		}
		hold(t, c.policy, []string{"out"}, c.order, c.rows, c.other)
	}
}

// P18.1: rows of more than one value.
func TestDecideNames(t *testing.T) {
	two := [][]api.Value{row("1", "2"), row("1", "3"), row("0", "3")}
	order := [][]api.Value{row("0", "1"), row("3", "2")}
	last := [][]api.Value{nil, row("3", "2")}
	for i, c := range []struct {
		policy      int
		order, rows [][]api.Value
		other       []api.Value
		want        string
		e           api.Errno
	}{
		{4, last, two[:1], nil, "{a: 1, b: 2}", 0}, {1, last, two[:1], nil, "{a: 1, b: 2}", 0}, {1, last, two[:2], nil, "", api.ErrUnique}, {1, last, nil, two[1], "{a: 1, b: 3}", 0},
		{2, last, [][]api.Value{two[0], two[0]}, nil, "{a: 1, b: 2}", 0}, {2, last, two[:2], nil, "", api.ErrAny}, {2, last, two[1:], nil, "", api.ErrAny},
		// One output after the other is asked, and those without values aren't.
		{3, order, two, nil, "{a: 0, b: 3}", 0}, {3, order, two[:2], nil, "{a: 1, b: 3}", 0}, {3, last, two, nil, "{a: 1, b: 3}", 0}, {3, order, nil, nil, "null", 0},
		{6, order, two, nil, "[{a: 0, b: 3}, {a: 1, b: 3}, {a: 1, b: 2}]", 0}, {6, last, two, nil, "[{a: 1, b: 3}, {a: 0, b: 3}, {a: 1, b: 2}]", 0}, {6, order, nil, two[0], "[{a: 1, b: 2}]", 0},
		{5, order, two[1:], nil, "[{a: 1, b: 3}, {a: 0, b: 3}]", 0}, {7, order, two[1:], nil, "[{a: 1, b: 3}, {a: 0, b: 3}]", 0}, {7, order, nil, nil, "[]", 0},
		{8, order, nil, nil, "", api.ErrForm}, {9, order, nil, nil, "", api.ErrForm}, {10, order, two, nil, "", api.ErrForm}, {11, order, two, nil, "", api.ErrForm}, {12, order, two, nil, "", api.ErrArg},
	} {
		v, e := Decide(c.policy, []string{"a", "b"}, c.order, c.rows, c.other)
		if e != c.e || e == api.OK && print(v) != c.want || e != api.OK && !value.Same(v, api.Value{}) {
			t.Errorf("case %d: %s %v, want %s %v", i, print(v), e, c.want, c.e)
		}
		hold(t, c.policy, []string{"a", "b"}, c.order, c.rows, c.other)
	}
}

// P18.2: the order of rows.
func TestSortExamples(t *testing.T) {
	for i, c := range []struct {
		order, rows [][]api.Value
		want        []int
	}{
		{[][]api.Value{row(`"a"`, `"b"`)}, rows(`"c"`, `"b"`, `"a"`, `"b"`), []int{2, 1, 3, 0}}, {[][]api.Value{nil}, rows("3", "2", "1"), []int{0, 1, 2}}, {[][]api.Value{row("1")}, nil, nil},
		// A value that stands twice counts where it stands first; one that is missing comes last, whatever it is.
		{[][]api.Value{row("2", "1", "2")}, rows("1", "2", "3", "2", "0"), []int{1, 3, 0, 2, 4}}, {[][]api.Value{row("null", "[1]", "{a: 1}")}, rows("{a: 1}", "[]", "[1]", "null", "false"), []int{3, 2, 0, 1, 4}},
		{[][]api.Value{row("1", "2"), row("1", "2")}, [][]api.Value{row("2", "1"), row("1", "2"), row("2", "0"), row("1", "1"), row("0", "1")}, []int{3, 1, 0, 2, 4}}, {[][]api.Value{nil, row("1", "2")}, [][]api.Value{row("2", "1"), row("1", "2"), row("2", "0"), row("1", "1"), row("0", "1")}, []int{0, 3, 4, 1, 2}}, {[][]api.Value{row("1", "2"), nil}, [][]api.Value{row("2", "1"), row("1", "2"), row("2", "0"), row("1", "1"), row("0", "1")}, []int{1, 3, 0, 2, 4}},
		// Without lists there are rows without values, all alike.
		{nil, nil, nil}, {nil, [][]api.Value{{}, nil, {}}, []int{0, 1, 2}},
	} {
		if l, e := Sort(c.order, c.rows); e != api.OK || !slices.Equal(l, c.want) {
			t.Errorf("case %d: %v %v, want %v", i, l, e, c.want)
		}
	}
}

// P18.3: each sign and each policy, and what is none.
func TestSigns(t *testing.T) {
	signs := strings.Fields("U A P F R O C C+ C< C> C#")
	for i, sign := range signs {
		if s, e := Sign(i + 1); s != sign || e != api.OK {
			t.Error(i+1, s, e)
		}
		if p, e := Policy(sign); p != i+1 || e != api.OK {
			t.Error(sign, p, e)
		}
	}
	for _, p := range []int{0, -1, 12, 13, math.MaxInt, math.MinInt} {
		if s, e := Sign(p); s != "" || e != api.ErrArg {
			t.Error(p, s, e)
		}
	}
	wrong := []string{"", " ", "X", "u", "U ", " U", "UU", "UA", "C-", "+", "#", "C++", "c+", "C +", "CC", "COLLECT", "\x00", "\xff", "Ü", strings.Repeat("U", 1<<20)}
	for a := range 128 {
		wrong = append(wrong, string(rune(a)))
		for b := range 128 {
			wrong = append(wrong, string(rune(a))+string(rune(b)))
		}
	}
	for _, s := range wrong {
		if slices.Contains(signs, s) {
			continue
		}
		if p, e := Policy(s); p != 0 || e != api.ErrText {
			t.Errorf("%.9q %d %v", s, p, e)
		}
	}
}

// nulls is so many rows of one null.
func nulls(n int) [][]api.Value {
	return slices.Repeat([][]api.Value{{{}}}, n)
}

// names is so many names.
func names(n int) []string {
	var list []string
	for i := range n {
		list = append(list, fmt.Sprint("n", i))
	}
	return list
}

// P1, P18.1, P18.2: what is not in form, at each of the limits.
func TestForm(t *testing.T) {
	one, none := []string{"out"}, [][]api.Value{nil}
	bad := []api.Value{{Kind: 7}, {Kind: -1}, {Kind: api.Bool, Day: 1}, {Kind: api.Text, Text: "\xff"}, {Kind: api.Num, Num: api.Dec{Neg: true}}, {Kind: api.List, List: make([]api.Value, 1000)}, {Kind: api.Ctx, List: make([]api.Value, 1)}, {List: make([]api.Value, 20)}}
	type given struct {
		names       []string
		order, rows [][]api.Value
		other       []api.Value
		e           api.Errno
	}
	list := []given{
		{one, none, nil, nil, api.OK}, {nil, nil, nil, nil, api.ErrForm}, {nil, none, nil, nil, api.ErrForm}, {one, nil, nil, nil, api.ErrForm}, {one, make([][]api.Value, 2), nil, nil, api.ErrForm}, {names(2), none, nil, nil, api.ErrForm},
		{one, none, [][]api.Value{nil}, nil, api.ErrForm}, {one, none, [][]api.Value{row("1", "2")}, nil, api.ErrForm}, {one, none, [][]api.Value{row("1"), row("1"), {}}, nil, api.ErrForm}, {names(2), make([][]api.Value, 2), [][]api.Value{row("1", "2"), row("1")}, nil, api.ErrForm}, {one, none, nil, row("1", "2"), api.ErrForm}, {names(2), make([][]api.Value, 2), nil, row("1"), api.ErrForm}, {names(2), make([][]api.Value, 2), nil, row("1", "2", "3"), api.ErrForm}, {one, none, rows("1"), row("1", "2"), api.ErrForm},
		{names(8), make([][]api.Value, 8), nil, nil, api.OK}, {names(9), make([][]api.Value, 9), nil, nil, api.ErrForm}, {names(9), make([][]api.Value, 8), nil, nil, api.ErrForm}, {names(8), make([][]api.Value, 9), nil, nil, api.ErrForm}, {names(1 << 16), make([][]api.Value, 1<<16), nil, nil, api.ErrForm},
		{one, none, nulls(60), nil, api.OK}, {one, none, nulls(61), nil, api.ErrForm}, {one, none, nulls(1 << 16), nil, api.ErrForm}, {one, [][]api.Value{make([]api.Value, 60)}, nil, nil, api.OK}, {one, [][]api.Value{make([]api.Value, 61)}, nil, nil, api.ErrForm}, {one, [][]api.Value{make([]api.Value, 60)}, nulls(60), row("1"), api.OK}, {names(2), [][]api.Value{nil, make([]api.Value, 61)}, nil, nil, api.ErrForm},
		{[]string{"a", "a"}, make([][]api.Value, 2), nil, nil, api.ErrForm}, {[]string{"a", "b", "a"}, make([][]api.Value, 3), nil, nil, api.ErrForm}, {[]string{"a", "A"}, make([][]api.Value, 2), nil, nil, api.OK},
	}
	for _, s := range []string{"", "1a", "a b", "null", "if", "é", "a-b", "\xff", "x ", strings.Repeat("x", 65)} {
		list = append(list, given{[]string{s}, none, rows("1"), nil, api.ErrForm}, given{[]string{"a", s}, make([][]api.Value, 2), nil, nil, api.ErrForm})
	}
	for _, v := range bad {
		list = append(list, given{one, none, [][]api.Value{{v}}, nil, api.ErrForm}, given{one, [][]api.Value{{v}}, rows("1"), nil, api.ErrForm}, given{one, [][]api.Value{{api.Value{}, v}}, nil, nil, api.ErrForm}, given{one, none, rows("1"), []api.Value{v}, api.ErrForm}, given{one, none, nil, []api.Value{v}, api.ErrForm}, given{one, none, [][]api.Value{row("1"), {v}}, nil, api.ErrForm}, given{names(2), make([][]api.Value, 2), [][]api.Value{{{}, v}}, nil, api.ErrForm})
	}
	for i, c := range list {
		for policy := -1; policy <= 13; policy++ {
			want := c.e
			switch {
			case policy < 1 || policy > 11:
				want = api.ErrArg
			case policy > 7 && len(c.names) > 1:
				want = api.ErrForm
			case policy == 1 && len(c.rows) > 1 && want == api.OK:
				want = api.ErrUnique
			}
			if e := hold(t, policy, c.names, c.order, c.rows, c.other); e != want {
				t.Errorf("case %d, policy %d: %v, want %v", i, policy, e, want)
			}
		}
	}
}

// many is a list of so many nulls, which is a part more.
func many(n int) api.Value {
	return api.Value{Kind: api.List, List: make([]api.Value, n)}
}

// nested is a value of that depth.
func nested(depth int) api.Value {
	v := api.Value{}
	for range depth - 1 {
		v = api.Value{Kind: api.List, List: []api.Value{v}}
	}
	return v
}

// P18.1: a result that is too long or too deep; what doesn't get into the result doesn't matter.
func TestTooMuch(t *testing.T) {
	one, none := []string{"out"}, [][]api.Value{nil}
	two, nones := names(2), make([][]api.Value, 2)
	long, deep := many(999), nested(16)
	for i, c := range []struct {
		names []string
		rows  [][]api.Value
		want  [11]api.Errno
	}{
		{one, [][]api.Value{{long}}, [11]api.Errno{4: api.ErrLong, 5: api.ErrLong, 6: api.ErrLong}}, {one, [][]api.Value{{many(998)}}, [11]api.Errno{}}, {one, [][]api.Value{{deep}}, [11]api.Errno{4: api.ErrDeep, 5: api.ErrDeep, 6: api.ErrDeep}}, {one, [][]api.Value{{nested(15)}}, [11]api.Errno{}},
		{one, [][]api.Value{{many(498)}, {many(499)}}, [11]api.Errno{0: api.ErrUnique, 1: api.ErrAny}}, {one, [][]api.Value{{many(499)}, {many(499)}}, [11]api.Errno{0: api.ErrUnique, 4: api.ErrLong, 5: api.ErrLong, 6: api.ErrLong}}, {one, [][]api.Value{{long}, {deep}}, [11]api.Errno{0: api.ErrUnique, 1: api.ErrAny, 4: api.ErrLong, 5: api.ErrLong, 6: api.ErrLong}}, {one, [][]api.Value{{deep}, {deep}}, [11]api.Errno{0: api.ErrUnique, 4: api.ErrDeep, 5: api.ErrDeep, 6: api.ErrDeep}},
		{two, [][]api.Value{{long, {}}}, [11]api.Errno{api.ErrLong, api.ErrLong, api.ErrLong, api.ErrLong, api.ErrLong, api.ErrLong, api.ErrLong}}, {two, [][]api.Value{{many(997), {}}}, [11]api.Errno{4: api.ErrLong, 5: api.ErrLong, 6: api.ErrLong}}, {two, [][]api.Value{{many(996), {}}}, [11]api.Errno{}},
		{two, [][]api.Value{{deep, {}}}, [11]api.Errno{api.ErrDeep, api.ErrDeep, api.ErrDeep, api.ErrDeep, api.ErrDeep, api.ErrDeep, api.ErrDeep}}, {two, [][]api.Value{{nested(15), {}}}, [11]api.Errno{4: api.ErrDeep, 5: api.ErrDeep, 6: api.ErrDeep}}, {two, [][]api.Value{{nested(14), {}}}, [11]api.Errno{}},
		// A row that is too long by itself, ahead of another, or behind it.
		{two, [][]api.Value{{long, {}}, {{}, {}}}, [11]api.Errno{0: api.ErrUnique, 1: api.ErrAny, 2: api.ErrLong, 3: api.ErrLong, 4: api.ErrLong, 5: api.ErrLong, 6: api.ErrLong}}, {two, [][]api.Value{{{}, {}}, {long, {}}}, [11]api.Errno{0: api.ErrUnique, 1: api.ErrAny, 4: api.ErrLong, 5: api.ErrLong, 6: api.ErrLong}}, {two, [][]api.Value{{long, long}, {long, long}}, [11]api.Errno{0: api.ErrUnique, 1: api.ErrLong, 2: api.ErrLong, 3: api.ErrLong, 4: api.ErrLong, 5: api.ErrLong, 6: api.ErrLong}},
	} {
		order := none
		if len(c.names) == 2 {
			order = nones
		}
		for policy := 1; policy <= 11; policy++ {
			want := c.want[policy-1]
			if policy > 7 && len(c.names) == 2 {
				want = api.ErrForm
			}
			if e := hold(t, policy, c.names, order, c.rows, nil); e != want {
				t.Errorf("case %d, policy %d: %v, want %v", i, policy, e, want)
			}
			if len(c.rows) == 1 {
				if e := hold(t, policy, c.names, order, nil, c.rows[0]); e != want {
					t.Errorf("case %d, policy %d, otherwise: %v, want %v", i, policy, e, want)
				}
			}
		}
	}
	// By rank, the row that is too long comes last.
	rows := [][]api.Value{{long, read("2")}, {{}, read("1")}}
	for policy, want := range map[int]api.Errno{3: api.OK, 4: api.ErrLong, 6: api.ErrLong} {
		if e := hold(t, policy, two, [][]api.Value{nil, row("1")}, rows, nil); e != want {
			t.Error(policy, e)
		}
	}
}

// P1: values that hold themselves end, too.
func TestSelf(t *testing.T) {
	self := api.Value{Kind: api.List, List: make([]api.Value, 1)}
	self.List[0] = self
	for policy := 1; policy <= 11; policy++ {
		for _, call := range []func() (api.Value, api.Errno){
			func() (api.Value, api.Errno) {
				return Decide(policy, []string{"a"}, [][]api.Value{nil}, [][]api.Value{{self}}, nil)
			},
			func() (api.Value, api.Errno) {
				return Decide(policy, []string{"a"}, [][]api.Value{{self}}, nil, nil)
			},
			func() (api.Value, api.Errno) {
				return Decide(policy, []string{"a"}, [][]api.Value{nil}, nil, []api.Value{self})
			},
		} {
			if v, e := call(); e != api.ErrForm || v.Kind != 0 || len(v.List) != 0 {
				t.Error(policy, e)
			}
		}
	}
}

// P18.1, P18.2: all rows of up to four values out of four, in each of some orders, under each policy.
func TestAllSmall(t *testing.T) {
	pool := []string{"1", "2", `"a"`, "null"}
	for _, order := range [][]api.Value{nil, row("1"), row("2", "1"), row("null", `"a"`, "2"), row("1", "2", `"a"`, "null"), row("2", "2", "1")} {
		for n := range 5 {
			for code := range 1 << (2 * n) {
				var texts []string
				for i := range n {
					texts = append(texts, pool[code>>(2*i)&3])
				}
				for policy := 1; policy <= 11; policy++ {
					hold(t, policy, []string{"out"}, [][]api.Value{order}, rows(texts...), nil)
				}
			}
		}
	}
}

// P18.1, P18.2: random rows, and the same ones with something changed.
func TestRandom(t *testing.T) {
	s := &source{state: 18}
	few, all := []string{"1", "2", "3"}, []string{"1", "-2.5", "null", "true", "false", `""`, `"a"`, `@"2024-01-31"`, "[]", "[1, null]", "{}", "{a: 1}", "{a: 1, b: [2]}", most, "-" + most, "0.1", "0", "100000000000000000"}
	seen := map[api.Errno]int{}
	for range 6000 {
		policy, n := 1+s.below(11), 1+s.below(3)
		if policy > 7 {
			n = 1
		}
		texts := [][]string{few, few, all, all[s.below(6):], {"7"}}[s.below(5)]
		order, rows := make([][]api.Value, n), make([][]api.Value, s.below(7))
		for i := range order {
			order[i] = s.values(s.below(4), texts)
		}
		for i := range rows {
			rows[i] = s.values(n, texts)
		}
		other := s.values(n*s.below(2), texts)
		seen[hold(t, policy, names(n), order, rows, other)]++
		names := names(n)
		switch s.below(6) {
		case 0:
			names[s.below(n)] = "2"
		case 1:
			order[s.below(n)] = []api.Value{{Kind: 9}}
		case 2:
			rows = append(rows, s.values(n+1-2*s.below(2), all))
		case 3:
			other = s.values(n+1, all)
		case 4:
			order = append(order, nil)
		case 5:
			policy += 8
		}
		seen[hold(t, policy, names, order, rows, other)]++
	}
	for e, least := range map[api.Errno]int{api.OK: 3000, api.ErrArg: 300, api.ErrForm: 1500, api.ErrUnique: 200, api.ErrAny: 50, api.ErrOver: 3} {
		if seen[e] < least {
			t.Error(seen)
		}
	}
}

// roomy is a copy of a value with something in the spare room of its lists.
func roomy(v api.Value) api.Value {
	v.Text = strings.Clone(v.Text)
	v.List, v.Names = append(roomyList(v.List), api.Value{Kind: 9})[:len(v.List)], append(slices.Clone(v.Names), "spare")[:len(v.Names)]
	return v
}

func roomyList(list []api.Value) []api.Value {
	var out []api.Value
	for _, v := range list {
		out = append(out, roomy(v))
	}
	return append(out, api.Value{Kind: 9}, api.Value{Kind: 9})[:len(list)]
}

func roomyRows(list [][]api.Value) [][]api.Value {
	var out [][]api.Value
	for _, l := range list {
		out = append(out, roomyList(l))
	}
	return append(out, nil, nil)[:len(list)]
}

// memory is where the lists and the texts of a value lie, and how often.
func memory(v api.Value, seen map[any]int) {
	if cap(v.List) > 0 {
		seen[&v.List[:1][0]]++
	}
	if cap(v.Names) > 0 {
		seen[&v.Names[:1][0]]++
	}
	for _, s := range append(slices.Clone(v.Names), v.Text) {
		if s != "" {
			seen[unsafe.StringData(s)]++
		}
	}
	for _, w := range v.List {
		memory(w, seen)
	}
}

// P18.4: nothing is put into the spare room of an argument; a result shares no memory with an
// argument, and no two lists of one result share any.
func TestNewMemory(t *testing.T) {
	twice := read(`{l: ["some text", [1]], k: {m: "more"}}`)
	given := [][]api.Value{{twice, read(`"word"`)}, {twice, read(`"text"`)}, {read(`["x", "y"]`), read("1")}}
	values := [][]api.Value{{read(`"other"`), twice, twice}, {read("1"), read(`"text"`)}}
	for policy := 1; policy <= 11; policy++ {
		for n := 1; n <= 2; n++ {
			for last := range 4 {
				var cut [][]api.Value
				for _, r := range given[:last] {
					cut = append(cut, r[:n])
				}
				if policy == 2 && last == 2 {
					cut[1] = cut[0]
				}
				order, rows, other := roomyRows(values[:n]), roomyRows(cut), roomyList(given[1][:n])
				if policy == 7 && last == 2 {
					rows[1] = rows[0] // rows that share all their memory
				}
				own := append(slices.Clone(names(n)), "spare", "room")
				before := fmt.Sprint(own, order[:n], rows, other, rows[:cap(rows)], other[:cap(other)], order[:cap(order)])
				v, e := Decide(policy, own[:n:n+1], order, rows, other)
				places, e2 := Sort(order, rows)
				if e2 != api.OK || len(places) != last {
					t.Error(policy, places, e2)
				}
				want := print(v)
				seen := map[any]int{}
				for _, list := range append(slices.Concat(order, rows), other) {
					for _, x := range list {
						memory(x, seen)
					}
				}
				for _, name := range own {
					seen[unsafe.StringData(name)]++
				}
				mine := map[any]int{}
				memory(v, mine)
				for p, times := range mine {
					if times > 1 || seen[p] > 0 {
						t.Errorf("policy %d, %d rows of %d: the result %s shares memory", policy, last, n, want)
					}
				}
				spoil(v)
				if after := fmt.Sprint(own, order[:n], rows, other, rows[:cap(rows)], other[:cap(other)], order[:cap(order)]); after != before {
					t.Errorf("policy %d: %s is changed to %s", policy, before, after)
				}
				if again, e3 := Decide(policy, own[:n:n+1], order, rows, other); e3 != e || print(again) != want {
					t.Errorf("policy %d: %s %v, and then %s %v", policy, want, e, print(again), e3)
				}
			}
		}
	}
}

// spoil changes all that a value holds.
func spoil(v api.Value) {
	for i := range v.List[:cap(v.List)] {
		w := &v.List[:cap(v.List)][i]
		spoil(*w)
		*w = api.Value{Kind: 8}
	}
	for i := range v.Names[:cap(v.Names)] {
		v.Names[:cap(v.Names)][i] = "gone"
	}
}
