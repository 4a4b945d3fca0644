package calc

import (
	"maps"
	"math"
	"slices"
	"strings"
	"testing"
	"unsafe"

	"tariff/api"
	"tariff/check"
	"tariff/code"
	"tariff/value"
)

// exampleNames is the names of the chapter's examples.
func exampleNames(t *testing.T) api.Value {
	return read(t, `{x: 3, s: "ab", l: [1, 2], c: {a: 5}}`)
}

// P15.2, P15.3: the chapter's examples, and the edges of its table of nodes.
func TestEvalExamples(t *testing.T) {
	names := exampleNames(t)
	for s, want := range map[string]string{
		"x + 1": "4", "x + s": "null", "s + s": `"abab"`, "if x > 2 then 1 else 1 / 0": "1", "y": "null", "c.a * 2": "10", "c.b": "null", "null = null": "true", "x = s": "null", "x > s or true": "true", "x between 1 and 5": "true", "x in (1, [2..3])": "true", "sum(l) / count(l)": "1.5", "sum([])": "null", "abs(s)": "null", "round(2.345, 2)": "2.34", `substring("abc", 0, 1)`: "null", "string([1, s])": `"[1, \"ab\"]"`, "append(l, s)": `[1, 2, "ab"]`,
		"null": "null", "true": "true", "false": "false", "2.50": "2.5", `"a\n"`: `"a\n"`, `@"2024-02-29"`: `@"2024-02-29"`, "x": "3", "s": `"ab"`, "c": "{a: 5}", "l": "[1, 2]", "[]": "[]", "{}": "{}", "[l, x, y]": "[[1, 2], 3, null]", "{b: x, a: {c: l}}": "{b: 3, a: {c: [1, 2]}}", "{a: [{b: 1}], c: {}}.a": "[{b: 1}]", "{x: 1}.x": "1", "{a: x}.x": "null", "{a: null}.a": "null", "l.a": "null", "x.a": "null", "null.a": "null", "c.a.a": "null", "{a: c}.a.a": "5", "[c].a": "null",
		"-x": "-3", "--x": "3", "-0": "0", "-s": "null", "-null": "null", "-true": "null", "-l": "null", "0.1 + 0.2": "0.3", "x - 5": "-2", "s - s": "null", "x * -1.5": "-4.5", "s * 2": "null", "1 / 3": "0.333333333333333333", "s / 0": "null", "null / 0": "null", "1 / null": "null", "s + 1": "null", "null + 1": "null", "l + l": "null", "true + true": "null", `@"2024-02-29" + 1`: "null", `"" + ""`: `""`, "s + \"\" + s": `"abab"`, "1 / (0 * -1 + 1)": "1", "1 - 2 - 3": "-4", "8 / 4 / 2": "1",
		"1 = 1": "true", "1 = 2": "false", "1 != 2": "true", "1 != 1": "false", "x != s": "null", "null != null": "false", "null != 1": "true", "l = [1, 2]": "true", "l != [1, 3]": "true", "c = {a: 5}": "true", "l = [1, s]": "null", "1.0 = 1": "true", "2 < 3": "true", "3 < 3": "false", "3 <= 3": "true", "4 <= 3": "false", "4 > 3": "true", "3 > 3": "false", "3 >= 3": "true", "2 >= 3": "false", `"a" < "b"`: "true", `"a" >= "b"`: "false", `@"2024-02-29" <= @"2024-02-28"`: "false", "true < false": "null", "true >= true": "null", "null <= null": "null", "1 < s": "null", "1 <= s": "null", "1 > s": "null", "1 >= s": "null", "l < l": "null",
		"true and false": "false", "true and true": "true", "true and null": "null", "null and false": "false", "true and 1": "null", "1 and 2": "null", "false and 1": "false", "true or null": "true", "null or false": "null", "false or false": "false", "1 or true": "true", "1 or false": "null",
		"if true then 1 else 2": "1", "if false then 1 else 2": "2", "if null then 1 else 2": "2", "if 1 then 1 else 2": "2", "if s then 1 else 2": "2", "if y then 1 else 2": "2", "if false then 1 / 0 else 2": "2", "if false then f(1) else 2": "2", "if true then 1 else abs()": "1", "if true then if false then 1 else 2 else 3": "2", "if false then 1 else if true then 2 else 3": "2", "(if true then 1 else 2) + (if false then 10 else 20)": "21", "[if x > 2 then s else l, if x > 5 then s else l]": `["ab", [1, 2]]`, "if if true then false else true then 1 else 2": "2", "{a: if true then 1 else 2, b: if false then 1 else 2}": "{a: 1, b: 2}",
		"1 between 1 and 2": "true", "2 between 1 and 2": "true", "3 between 1 and 2": "false", "0 between 1 and 2": "false", "1 between 2 and 1": "false", "s between 1 and 2": "null", "1 between s and 2": "null", "3 between s and 2": "false", "1 between 2 and s": "false", "1 between 1 and s": "null", `s between "aa" and "ab"`: "true", "true between true and true": "null",
		"x in (3)": "true", "x in (4)": "false", "x in (s)": "null", "x in (s, 3)": "true", "x in (s, 4)": "null", "x in (< 3)": "false", "x in (<= 3)": "true", "x in (> 3)": "false", "x in (>= 3)": "true", "x in (> s)": "null", "x in ([1..3))": "false", "x in ((1..3])": "true", "x in ((3..4))": "false", "x in ([3..4))": "true", "x in (l)": "null", "l in ([1, 2])": "true", "x in ((x in (3)))": "null", "true in ((x in (3)))": "true", "(x in (4)) in (false)": "true", "x in (> (if s in (\"ab\") then 2 else 4), 9)": "true", "[x in (3), s in (3), 3 in ([x..x])]": "[true, null, true]", "null in (null)": "true", "null in (1)": "false", "null in (< 1)": "null", "1 in (2, 3, 1)": "true", "1 in ((1 in (2)), 1)": "true", "(1 in (1, 2)) and (5 in (1, (5)))": "true", "2 in ((5 in (5, 6)), < 1, 2)": "true",
	} {
		nodes := parse(t, s, false)
		if got, e := Eval(nodes, names); e != api.OK || !value.Same(got, read(t, want)) {
			t.Errorf("Eval(%q): %s %v, want %s", s, print(got), e, want)
		}
		hold(t, nodes, false, names, api.Value{})
	}
}

// P15.2: the errors of nodes: the first one, in order, ends the evaluation.
func TestEvalErrors(t *testing.T) {
	names := exampleNames(t)
	for s, want := range map[string]api.Errno{
		"1 / 0": api.ErrZero, "f(x)": api.ErrName, "abs(1, 2)": api.ErrType, `days(@"9999-12-31", 1)`: api.ErrFar, "9999999999999999999999999999999999 + 1": api.ErrOver, "-9999999999999999999999999999999999 - 1": api.ErrOver, "9999999999999999999999999999999999 * 2": api.ErrOver, "9999999999999999999999999999999999 / 0.1": api.ErrOver, "0 / 0": api.ErrZero,
		"f()": api.ErrName, "f(1 / 0)": api.ErrZero, "abs(1 / 0, 1)": api.ErrZero, "abs()": api.ErrType, "x()": api.ErrName, "[1 / 0, f()]": api.ErrZero, "[f(), 1 / 0]": api.ErrName, "f() + 1 / 0": api.ErrName, "1 / 0 + f()": api.ErrZero, "{a: 1 / 0}": api.ErrZero, "{a: 1 / 0}.b": api.ErrZero, "-(1 / 0)": api.ErrZero, "false and 1 / 0 = 1": api.ErrZero, "true or 1 / 0 = 1": api.ErrZero, "if 1 / 0 = 1 then 1 else 2": api.ErrZero, "if true then 1 / 0 else 2": api.ErrZero, "if false then 1 else 1 / 0": api.ErrZero, "if null then 1 else f()": api.ErrName,
		"1 in (1, 1 / 0)": api.ErrZero, "1 in ([1..1 / 0])": api.ErrZero, "1 / 0 in (f())": api.ErrZero, "f() in (1 / 0)": api.ErrName, "1 between 2 and 1 / 0": api.ErrZero, "s = 1 / 0": api.ErrZero, "null + 1 / 0": api.ErrZero, "modulo(1, 0)": api.ErrZero, `months(@"0001-01-01", -1)`: api.ErrFar, "sum([9999999999999999999999999999999999, 1])": api.ErrOver,
	} {
		nodes := parse(t, s, false)
		if got, e := Eval(nodes, names); e != want || !value.Same(got, api.Value{}) {
			t.Errorf("Eval(%q): %s %v, want %v", s, print(got), e, want)
		}
		hold(t, nodes, false, names, api.Value{})
	}
}

// P15.2, P15.3: the chapter's examples of tests, and the edges of them.
func TestTestExamples(t *testing.T) {
	names := exampleNames(t)
	for _, c := range [][3]string{
		{"< 5", "4", "true"}, {"> x", "4", "true"}, {"x, s", `"ab"`, "true"}, {"-", "null", "true"},
		{"< 5", "5", "false"}, {"<= 5", "5", "true"}, {"> 5", "5", "false"}, {">= 5", "5", "true"}, {">= x", "2", "false"}, {"5", "5", "true"}, {"s", "5", "null"}, {"y", "null", "true"}, {"y", "1", "false"}, {"< y", "1", "null"}, {"[1..x]", "3", "true"}, {"[1..x)", "3", "false"}, {"(x..5)", "3", "false"}, {"[x..5)", "3", "true"}, {"[1..s]", "0", "false"}, {"[1..s]", "3", "null"}, {"[s..1]", "3", "false"}, {"l", "[1, 2]", "true"}, {"c", "{a: 5}", "true"}, {"c", "{a: 6}", "false"}, {"1 + 1", "2", "true"}, {"not(x)", "3", "false"}, {"not(s)", "3", "null"}, {"not(x, 4)", "5", "true"}, {"not(s, 5)", "5", "false"}, {"1, s", "2", "null"}, {"1, 4", "2", "false"}, {"s, 2, 3", "2", "true"}, {"-", "[{}]", "true"}, {"(x in (3))", "true", "true"}, {"(1 in (2)), 5", "5", "true"}, {"(1 in (2, 5)), > 4", "5", "true"}, {"[(if 1 in (1) then 2 else 7)..6]", "5", "true"}, {"(2 in (3, 1)), (5 in (5))", "true", "true"}, {"null", "null", "true"}, {"null", "1", "false"},
	} {
		nodes := parse(t, c[0], true)
		if got, e := Test(nodes, names, read(t, c[1])); e != api.OK || !value.Same(got, read(t, c[2])) {
			t.Errorf("Test(%q, %s): %s %v, want %s", c[0], c[1], print(got), e, c[2])
		}
		hold(t, nodes, true, names, read(t, c[1]))
	}
	for s, want := range map[string]api.Errno{"1 / 0": api.ErrZero, "4, 1 / 0": api.ErrZero, "f(), 1 / 0": api.ErrName, "not(abs())": api.ErrType, "[5..1 / 0]": api.ErrZero, "< f(1 / 0)": api.ErrZero} {
		nodes := parse(t, s, true)
		if got, e := Test(nodes, names, read(t, "4")); e != want || !value.Same(got, api.Value{}) {
			t.Errorf("Test(%q): %s %v, want %v", s, print(got), e, want)
		}
		hold(t, nodes, true, names, read(t, "4"))
	}
}

// P15.2, P15.3: each operation of values of all kinds.
func TestEachOperation(t *testing.T) {
	values := samples(t)
	seen := map[int]int{}
	errs := map[api.Errno]int{}
	check := func(s string, l ...api.Value) {
		v, e := hold(t, parse(t, s, false), false, context("a b c d"[:2*len(l)-1], l...), api.Value{})
		seen[v.Kind]++
		errs[e]++
	}
	for i, a := range values {
		for _, s := range []string{"a", "-a", "a.a", "a.b", "[a]", "[a, a]", "{a: a}", "{b: a}.b", "{b: a, c: 1}", "if a then 1 else 2", "a = a", "b", "[[a]]"} {
			check(s, a)
		}
		for k, b := range values {
			for _, s := range []string{"a + b", "a - b", "a * b", "a / b", "a = b", "a != b", "a < b", "a <= b", "a > b", "a >= b", "a and b", "a or b", "[a, b]", "{a: a, b: b}", "a in (b)", "a in (< b)", "a in (<= b)", "a in (> b)", "a in (>= b)", "if a then a else b", "a in (1, b)"} {
				check(s, a, b)
			}
			c := values[(i*7+k*3)%len(values)]
			for _, s := range []string{"a between b and c", "a in ([b..c])", "a in ([b..c))", "a in ((b..c])", "a in ((b..c))", "if a = b then b else c", "a in (b, c)", "a in (b, < c)", "a in (> b, c)"} {
				check(s, a, b, c)
			}
		}
	}
	for _, a := range values[:20] {
		for _, b := range values[:20] {
			for _, c := range values[:20] {
				check("a between b and c", a, b, c)
				check("a in ((b..c])", a, b, c)
			}
		}
	}
	if len(seen) != 7 || slices.Min(slices.Collect(maps.Values(seen))) < 100 || errs[api.ErrOver] < 20 || errs[api.ErrZero] < 15 || errs[api.ErrLong] < 3 {
		t.Error(seen, errs)
	}
}

// P15.2, P15.3: each test of values of all kinds.
func TestEachTest(t *testing.T) {
	values := append(samples(t), nested(15), nulls(999))
	seen := map[string]int{}
	check := func(s string, v api.Value, l ...api.Value) {
		got, e := hold(t, parse(t, s, true), true, context("a b c d"[:2*len(l)-1], l...), v)
		if e != api.OK {
			t.Errorf("Test(%q): %v", s, e)
		}
		seen[print(got)]++
	}
	for i, v := range values {
		for k, a := range values[:len(values)-2] {
			for _, s := range []string{"a", "< a", "<= a", "> a", ">= a", "not(a)", "not(< a)", "-", "1, a", "not(a, 2)"} {
				check(s, v, a)
			}
			b := values[(i*5+k*11)%(len(values)-2)]
			for _, s := range []string{"[a..b]", "[a..b)", "(a..b]", "(a..b)", "a, b", "not(a, b)", "< a, > b", "not([a..b])"} {
				check(s, v, a, b)
			}
		}
	}
	if len(seen) != 3 {
		t.Error(seen)
	}
}

// functionNames is the names of all functions.
func functionNames() []string {
	return slices.Sorted(maps.Keys(functions))
}

// P15.1: the functions are those of check.
func TestFunctionNames(t *testing.T) {
	if len(functionNames()) != 25 {
		t.Error(functionNames())
	}
	for _, name := range functionNames() {
		params, _, e := check.Function(name)
		if e != api.OK || len(params) != len(functions[name].kinds) {
			t.Error(name, params, e)
		}
	}
}

// P15.1: examples of each function, and the edges of the chapter's table.
func TestCallExamples(t *testing.T) {
	for s, want := range map[string]string{
		"abs [-2.5]": "2.5", "abs [3]": "3", "abs [null]": "null", "floor [-0.5]": "-1", "floor [2.9]": "2", "ceiling [-0.5]": "0", "ceiling [2.1]": "3", `ceiling ["2"]`: "null", "round [2.5, 0]": "2", "round [3.5, 0]": "4", "round [1.25, 1]": "1.2", "round [1, 19]": "null", "round [1, 18]": "1", "round [1, -1]": "null", "round [1, 0.5]": "null", "round [1, 9223372036854775808]": "null", "round [1, null]": "null", `round ["a", 1]`: "null", "modulo [-7, 3]": "2", "modulo [7, -3]": "-2", "modulo [5.5, 2]": "1.5", "modulo [1, null]": "null", "modulo [null, 0]": "null",
		"min [[3, 1, 2]]": "1", "max [[3, 1, 2]]": "3", "min [[1, 1]]": "1", "max [[-1, -2.5]]": "-1", "min [[-1, -2.5, 0]]": "-2.5", "min [[]]": "null", "max [[]]": "null", "sum [[]]": "null", "min [[5]]": "5", "sum [[5]]": "5", "sum [[1, 2, 0.5]]": "3.5", "sum [[1, -1]]": "0", "min [[1, null]]": "null", "max [[null]]": "null", `sum [[1, "a"]]`: "null", "sum [[9999999999999999999999999999999999, 1, null]]": "null", "sum [3]": "null", "min [{a: 1}]": "null", "max [null]": "null", "count [[]]": "0", "count [[null, [1, 2]]]": "2", "count [{a: 1}]": "null", "count [null]": "null", `count ["abc"]`: "null",
		`contains ["abc", "bc"]`: "true", `contains ["abc", "cb"]`: "false", `contains ["abc", ""]`: "true", `contains ["", "a"]`: "false", `contains ["abc", 1]`: "null", `contains [null, "a"]`: "null", `contains [["a"], "a"]`: "null", `starts ["abc", "ab"]`: "true", `starts ["abc", "b"]`: "false", `starts ["abc", ""]`: "true", `starts ["ab", "abc"]`: "false", `starts [1, "1"]`: "null", `length [""]`: "0", `length ["é€😀"]`: "3", "length [5]": "null", "length [[1]]": "null",
		`substring ["abcde", 2, 3]`: `"bcd"`, `substring ["abcde", -2, 9]`: `"de"`, `substring ["abcde", -9, 2]`: `"ab"`, `substring ["abc", 9, 1]`: `""`, `substring ["abc", 0, 1]`: "null", `substring ["abc", 1, -1]`: "null", `substring ["abc", 1, 0]`: `""`, `substring ["é€😀", 2, 1]`: `"€"`, `substring ["abc", 1.5, 1]`: "null", `substring ["abc", 1, 1.5]`: "null", `substring ["abc", 9223372036854775808, 1]`: "null", `substring ["abc", 1, 9223372036854775808]`: "null", `substring ["abc", 2, 9223372036854775807]`: `"bc"`, `substring ["abc", -9223372036854775808, 2]`: `"ab"`, "substring [1, 1, 1]": "null", `substring ["abc", null, 1]`: "null", `substring ["abc", 1, null]`: "null", `upper ["aé-Z"]`: `"Aé-Z"`, `lower ["AÉ-z"]`: `"aÉ-z"`, "upper [1]": "null", "lower [null]": "null",
		`date ["2024-02-29"]`: `@"2024-02-29"`, `date ["2023-02-29"]`: "null", `date ["2024-2-29"]`: "null", `date [""]`: "null", "date [20240229]": "null", `date [@"2024-02-29"]`: "null", `year [@"2024-02-29"]`: "2024", `month [@"2024-02-29"]`: "2", `day [@"2024-02-29"]`: "29", `weekday [@"2024-02-29"]`: "4", `weekday [@"0001-01-01"]`: "1", `weekday [@"2024-03-03"]`: "7", `year ["2024-02-29"]`: "null", "month [1]": "null", "day [null]": "null", "weekday [true]": "null",
		`days [@"2024-02-28", 2]`: `@"2024-03-01"`, `days [@"2024-02-28", -28]`: `@"2024-01-31"`, `days [@"9999-12-30", 1]`: `@"9999-12-31"`, `days [@"2024-02-28", 0.5]`: "null", `days [@"2024-02-28", null]`: "null", `days [1, 1]`: "null", `days [@"2024-02-28", 9223372036854775808]`: "null", `months [@"2024-01-31", 1]`: `@"2024-02-29"`, `months [@"2024-01-31", -11]`: `@"2023-02-28"`, `months [@"2024-01-31", 0.5]`: "null", `months ["2024-01-31", 1]`: "null", `months [@"2024-01-31", -9223372036854775809]`: "null",
		"negate [true]": "false", "negate [false]": "true", "negate [null]": "null", "negate [1]": "null", "negate [[true]]": "null", "append [[], null]": "[null]", "append [[1], [2]]": "[1, [2]]", "append [[1], {a: 1}]": "[1, {a: 1}]", "append [null, 1]": "null", "append [{}, 1]": "null", "append [1, 1]": "null", "string [null]": `"null"`, `string ["a"]`: `"\"a\""`, "string [[]]": `"[]"`, `string [@"2024-02-29"]`: `"@\"2024-02-29\""`, "string [{a: [true]}]": `"{a: [true]}"`, "string [-2.5]": `"-2.5"`,
	} {
		name, args, _ := strings.Cut(s, " ")
		l := read(t, args).List
		if got, e := Call(name, l); e != api.OK || !value.Same(got, read(t, want)) {
			t.Errorf("Call(%s): %s %v, want %s", s, print(got), e, want)
		}
		holdCall(t, name, l)
	}
	for s, want := range map[string]api.Errno{
		"modulo [1, 0]": api.ErrZero, "modulo [0, 0]": api.ErrZero, "sum [[9999999999999999999999999999999999, 1]]": api.ErrOver, "sum [[9999999999999999999999999999999999, 1, -1]]": api.ErrOver, "sum [[9999999999999999999999999999999999, -1, 1]]": api.OK, `days [@"9999-12-31", 1]`: api.ErrFar, `days [@"0001-01-01", -1]`: api.ErrFar, `days [@"2024-02-28", 9223372036854775807]`: api.ErrFar, `days [@"2024-02-28", -9223372036854775808]`: api.ErrFar, `months [@"9999-12-31", 1]`: api.ErrFar, `months [@"0001-01-01", -1]`: api.ErrFar, `months [@"2024-01-31", 9223372036854775807]`: api.ErrFar, `months [@"2024-01-31", -9223372036854775808]`: api.ErrFar,
		"f []": api.ErrName, "f [1]": api.ErrName, " [1]": api.ErrName, "abs []": api.ErrType, "abs [1, 2]": api.ErrType, "round [1]": api.ErrType, "round [1, 1, 1]": api.ErrType, "min []": api.ErrType, "min [1, 2]": api.ErrType, "string []": api.ErrType, "string [1, 2]": api.ErrType, "Abs [1]": api.ErrName, "if [1]": api.ErrName, "append [[]]": api.ErrType,
	} {
		name, args, _ := strings.Cut(s, " ")
		got, e := Call(name, read(t, args).List)
		if e != want || e != api.OK && !value.Same(got, api.Value{}) {
			t.Errorf("Call(%s): %s %v, want %v", s, print(got), e, want)
		}
		holdCall(t, name, read(t, args).List)
	}
}

// P15.1: each function of values of all kinds, and of one less and one more.
func TestEachFunction(t *testing.T) {
	values := append(samples(t), nested(15), nulls(999), nulls(998))
	seen := map[int]int{}
	errs := map[api.Errno]int{}
	check := func(name string, l ...api.Value) {
		v, e := holdCall(t, name, l)
		seen[v.Kind]++
		errs[e]++
	}
	for _, name := range append(functionNames(), "f", "", "not", "mod", "Abs", "string ", "\xff") {
		check(name)
		for i, a := range values {
			check(name, a)
			for k, b := range values {
				check(name, a, b)
				if i%5 == 0 && k%3 == 0 {
					check(name, a, b, values[(i+k)%len(values)])
				}
			}
		}
	}
	texts, numbers := values[19:29], values[3:19]
	for _, a := range texts {
		for _, b := range numbers {
			for _, c := range numbers {
				check("substring", a, b, c)
			}
		}
	}
	if len(seen) != 6 || len(errs) != 8 || errs[api.ErrFar] < 10 || errs[api.ErrZero] < 10 || errs[api.ErrOver] < 1 || errs[api.ErrLong] < 10 || errs[api.ErrDeep] < 5 {
		t.Error(seen, errs)
	}
}

// P1, P15.1: the errors of Call in their order: of the values, of the name, of their number, then the others.
func TestCallErrors(t *testing.T) {
	long, deep, wrong := nulls(1000), nested(16), api.Value{Kind: 7}
	own := api.Value{Kind: api.List, List: make([]api.Value, 1)}
	own.List[0] = own
	ok := read(t, "[1]")
	for i, c := range []struct {
		name string
		l    []api.Value
		want api.Errno
	}{
		{"f", []api.Value{long}, api.ErrLong}, {"f", []api.Value{own}, api.ErrLong}, {"f", []api.Value{deep}, api.ErrDeep}, {"f", []api.Value{wrong}, api.ErrForm}, {"f", []api.Value{ok, wrong, long}, api.ErrForm}, {"f", []api.Value{ok, long, wrong}, api.ErrLong}, {"f", []api.Value{deep, long}, api.ErrDeep}, {"f", []api.Value{ok, deep}, api.ErrDeep}, {"f", []api.Value{ok}, api.ErrName}, {"f", nil, api.ErrName}, {"count", nil, api.ErrType}, {"count", []api.Value{ok, wrong}, api.ErrForm}, {"count", []api.Value{ok, ok}, api.ErrType}, {"count", []api.Value{ok}, api.OK}, {"count", []api.Value{wrong}, api.ErrForm}, {"modulo", []api.Value{ok.List[0], {Kind: api.Num}, ok}, api.ErrType}, {"modulo", []api.Value{ok.List[0], {Kind: api.Num}}, api.ErrZero}, {"abs", []api.Value{{Kind: api.Text, Text: "\xff"}}, api.ErrForm}, {"abs", make([]api.Value, 100000), api.ErrType}, {"string", []api.Value{{Kind: api.Null, Day: 1}}, api.ErrForm},
	} {
		got, e := Call(c.name, c.l)
		if e != c.want || e != api.OK && !value.Same(got, api.Value{}) {
			t.Errorf("case %d: %v, want %v", i, e, c.want)
		}
		holdCall(t, c.name, c.l)
	}
}

// P1, P15.1, P15.2: texts, lists and contexts at their limits.
func TestLimits(t *testing.T) {
	text := func(n int) api.Value { return textOf(strings.Repeat("x", n)) }
	for _, c := range []struct {
		s    string
		a, b api.Value
		want api.Errno
	}{
		{"a + b", text(999), text(1), api.OK}, {"a + b", text(999), text(2), api.ErrLong}, {"a + b", text(1000), text(0), api.OK}, {"a + b", text(0), text(1000), api.OK}, {"a + b", text(500), text(501), api.ErrLong}, {"a + b", textOf(strings.Repeat("é", 250)), textOf(strings.Repeat("é", 250)), api.OK}, {"a + b", textOf(strings.Repeat("é", 250)), textOf(strings.Repeat("é", 251)), api.ErrLong},
		{"string(a)", text(998), text(0), api.OK}, {"string(a)", text(999), text(0), api.ErrLong}, {"string([a])", text(996), text(0), api.OK}, {"string([a])", text(997), text(0), api.ErrLong}, {"string(string(a))", textOf(strings.Repeat("\n", 498)), text(0), api.ErrLong}, {"string(a)", textOf(strings.Repeat("\n", 499)), text(0), api.OK}, {"string(a)", textOf(strings.Repeat("\n", 500)), text(0), api.ErrLong}, {"upper(a)", text(1000), text(0), api.OK}, {"substring(a, 1, 1000)", text(1000), text(0), api.OK},
		{"[a, b]", nulls(498), nulls(499), api.OK}, {"[a, a]", nulls(499), text(0), api.ErrLong}, {"[a, a, null]", nulls(498), text(0), api.OK}, {"[a, a, null, null]", nulls(498), text(0), api.ErrLong}, {"{a: a, b: a, c: null}", nulls(498), text(0), api.OK}, {"{a: a, b: a, c: null, d: 1}", nulls(498), text(0), api.ErrLong}, {"[[a], a]", nulls(498), text(0), api.OK}, {"[[a], [a]]", nulls(498), text(0), api.ErrLong}, {"count([[a], [a]])", nulls(498), text(0), api.ErrLong}, {"append(a, b)", nulls(498), nulls(499), api.OK}, {"append(append(a, b), 1)", nulls(498), nulls(499), api.OK}, {"append(append(append(a, b), 1), 2)", nulls(498), nulls(499), api.ErrLong},
		{"[a]", nested(14), text(0), api.OK}, {"[[a]]", nested(14), text(0), api.ErrDeep}, {"{a: a}", nested(14), text(0), api.OK}, {"{a: {a: a}}", nested(14), text(0), api.ErrDeep}, {"[{a: a}]", nested(14), text(0), api.ErrDeep}, {"{a: [a]}.b", nested(14), text(0), api.ErrDeep}, {"append([], a)", nested(14), text(0), api.OK}, {"append([], [a])", nested(14), text(0), api.ErrDeep}, {"append(a, [a])", nested(14), text(0), api.ErrDeep}, {"append(a, a)", nested(14), text(0), api.OK}, {"[[a, b, b]]", nested(14), nulls(490), api.ErrDeep}, {"[[a, b], [b]]", nested(14), nulls(490), api.ErrDeep}, {"[a, b, b]", nested(14), nulls(490), api.OK}, {"[[a], b, b]", nested(14), nulls(490), api.ErrDeep}, {"[[a], b, b]", nested(14), nulls(492), api.ErrLong}, {"{a: {a: a}, b: b, c: b}", nested(14), nulls(490), api.ErrDeep}, {"{a: {a: a}, b: b, c: b}", nested(14), nulls(492), api.ErrLong},
		{"[b, b, [a]]", nested(14), nulls(499), api.ErrLong}, {"[b, b, a]", nested(14), nulls(499), api.ErrLong}, {"append([b, a], b)", nested(14), nulls(491), api.OK}, {"append([b, a], b)", nested(14), nulls(492), api.ErrLong}, {"[a].b", nested(14), text(0), api.OK},
	} {
		names := context("a b", c.a, c.b)
		if got, e := Eval(parse(t, c.s, false), names); e != c.want || e != api.OK && !value.Same(got, api.Value{}) {
			t.Errorf("Eval(%q): %s %v, want %v", c.s, print(got), e, c.want)
		}
		hold(t, parse(t, c.s, false), false, names, api.Value{})
	}
	for i, c := range []struct {
		a, b api.Value
		want api.Errno
	}{
		{nulls(998), api.Value{}, api.OK}, {nulls(999), api.Value{}, api.ErrLong}, {nulls(0), nulls(998), api.OK}, {nulls(0), nulls(999), api.ErrLong}, {nulls(0), nested(14), api.OK}, {nulls(0), nested(15), api.ErrDeep}, {nested(15), api.Value{}, api.OK}, {nulls(999), nested(15), api.ErrLong}, {nulls(984), nested(15), api.ErrLong}, {nulls(983), nested(15), api.ErrDeep},
	} {
		if got, e := Call("append", []api.Value{c.a, c.b}); e != c.want || e == api.OK && len(got.List) != len(c.a.List)+1 {
			t.Errorf("case %d: %s %v, want %v", i, print(got), e, c.want)
		}
		holdCall(t, "append", []api.Value{c.a, c.b})
	}
}

// P1, P15.2, P15.3: the errors in their order: of the nodes or the code, of the names, of the value, then those
// of the evaluation.
func TestErrorsInOrder(t *testing.T) {
	own := api.Value{Kind: api.List, List: make([]api.Value, 1)}
	own.List[0] = own
	values := []api.Value{{}, context("x", api.Value{Kind: api.Num}), context(""), nulls(2), textOf("x"), {Kind: api.Bool, Yes: true}, nulls(1000), own, nested(15), nested(16), {Kind: 7}, {Kind: -1}, {Yes: true}, context("x y", api.Value{}), context("x x", api.Value{}, api.Value{}), context("if", api.Value{}), context("x", api.Value{Kind: api.Date}), {Kind: api.Text, Text: "\xff"}, {Kind: api.Ctx, Names: []string{"a"}}, context("x", nested(14)), context("x", nested(15)), context("x", nulls(998)), context("x", nulls(999))}
	stretch := func(n int) []api.Node {
		return append([]api.Node{{Op: api.ONum}}, slices.Repeat([]api.Node{{Op: api.ONeg, Kids: 1}}, n)...)
	}
	lists := [][]api.Node{
		nil, parse(t, "x", false), parse(t, "1 / 0", false), parse(t, "f(1)", false), parse(t, "-", true), parse(t, "x", true), parse(t, "1 / 0", true), parse(t, "not(f())", true), {{Op: api.OAdd, Kids: 2}}, make([]api.Node, 300), make([]api.Node, 301), stretch(39), stretch(40), {{Op: api.OIf, Kids: 3}}, {{Op: api.ONum}, {Op: api.OIs, Kids: 1}}, {{Op: api.OEntry}}, {{Op: 101}}, {{Op: api.OList, Kids: math.MaxInt}},
	}
	codes := [][]api.Ins{nil, make([]api.Ins, 600), make([]api.Ins, 601), {{Op: api.ONum}, {Op: api.OIs}}, {{Op: api.ONull}, {Op: api.ONull}}, {{Op: api.IJump}}, {{Op: api.IJump, A: 1}, {Op: api.ONull}}, {{Op: api.ONull}, {Op: api.IJump, A: 2}}, {{Op: api.ONull}, {Op: api.ILeave}, {Op: api.ONull}, {Op: api.IEnter}}, {{Op: api.ONum}, {Op: api.ONum}, {Op: api.IUnless, A: 3}}, {{Op: api.OList, A: -1}}, {{Op: api.OList, A: math.MaxInt}}, {{Op: api.OEntry}}, {{Op: api.OName, Text: "if"}}}
	for _, nodes := range lists {
		list, _ := code.Compile(nodes, false)
		tests, _ := code.Compile(nodes, true)
		codes = append(codes, list, tests)
	}
	seen := map[api.Errno]int{}
	for _, names := range values {
		for _, v := range values {
			for _, nodes := range lists {
				for _, tests := range []bool{false, true} {
					_, e := hold(t, nodes, tests, names, v)
					seen[e]++
				}
			}
			for i, list := range codes {
				for _, tests := range []bool{false, true} {
					seen[holdRun(t, i, list, tests, names, v)]++
				}
			}
		}
	}
	for _, e := range []api.Errno{api.OK, api.ErrForm, api.ErrZero, api.ErrLong, api.ErrDeep, api.ErrName, api.ErrType} {
		if seen[e] < 50 {
			t.Error(seen)
		}
	}
}

// holdRun holds Run against what is wanted, and tells the error that is wanted.
func holdRun(t *testing.T, i int, list []api.Ins, tests bool, names, v api.Value) api.Errno {
	t.Helper()
	nodes, e := code.Back(list, tests)
	var want api.Value
	if e == api.OK {
		e = value.Check(names)
	}
	if e == api.OK && names.Kind != api.Ctx {
		e = api.ErrType
	}
	if e == api.OK {
		e = value.Check(v)
	}
	if e == api.OK {
		want, e = wantRun(nodes, tests, names, v)
	}
	if got, f := Run(list, tests, names, v); f != e || !same(got, want) {
		t.Errorf("code %d, tests %v, with %s, %s: %s %v, want %s %v", i, tests, print(names), print(v), print(got), f, print(want), e)
	}
	return e
}

// P15.2, P15.3, P15.4: random expressions and tests.
func TestRandom(t *testing.T) {
	s := &source{state: 71}
	names := read(t, `{n: 4, one: 1, s: "Price", d: @"2024-01-31", b: true, l: [1, "a", null, [2]], m: [2.5, -1, 4], c: {a: 5, b: "x", c: {a: 1}}}`)
	seen := map[int]int{}
	errs := map[api.Errno]int{}
	for range 20000 {
		kind := "nsdblmc"[s.below(7)]
		tests := s.below(3) == 0
		text := s.expr(kind, s.below(5))
		if tests {
			text = s.tests(kind, s.below(4))
			if s.below(3) == 0 {
				text = "not(" + text + ")"
			}
		}
		nodes, e := readNodes(text, tests)
		if e == api.ErrLong || e == api.ErrDeep {
			continue
		}
		if e != api.OK {
			t.Fatalf("%q: %v", text, e)
		}
		v, _ := Eval(parse(t, s.atom(kind), false), names)
		v, e = hold(t, nodes, tests, names, v)
		seen[v.Kind]++
		errs[e]++
	}
	if len(seen) != 7 || slices.Min(slices.Collect(maps.Values(seen))) < 500 || errs[api.OK] < 12000 || errs[api.ErrZero] < 200 || errs[api.ErrName] < 100 || errs[api.ErrType] < 100 || errs[api.ErrFar] < 100 || errs[api.ErrOver] < 50 {
		t.Error(seen, errs)
	}
}

// P15.5: nothing is put into the spare room of an argument, nor is it changed.
func TestArguments(t *testing.T) {
	names := exampleNames(t)
	spare := []api.Value{{Kind: api.Bool, Yes: true}, {Kind: api.Bool}}
	l := append(slices.Clone(names.List[2].List), spare...)
	names.List[2].List = l[:2]
	nodes := append(parse(t, "[append(l, 5), {a: l, b: c}, [s, s], append(append(l, 1), 2), if x in (3) then l else c]", false), api.Node{Op: 99}, api.Node{Op: 99})
	kept, keptNames, keptList := slices.Clone(nodes), copied(names), slices.Clone(l)
	list, _ := code.Compile(nodes[:len(nodes)-2], false)
	list = append(list, api.Ins{Op: 99}, api.Ins{Op: 99})
	keptCode := slices.Clone(list)
	want := read(t, `[[1, 2, 5], {a: [1, 2], b: {a: 5}}, ["ab", "ab"], [1, 2, 1, 2], [1, 2]]`)
	for range 2 {
		if v, e := Eval(nodes[:len(nodes)-2], names); e != api.OK || !value.Same(v, want) {
			t.Error(print(v), e)
		}
		if v, e := Run(list[:len(list)-2], false, names, names); e != api.OK || !value.Same(v, want) {
			t.Error(print(v), e)
		}
	}
	args := append([]api.Value{names.List[2], names.List[3]}, spare...)
	keptArgs := slices.Clone(args)
	for _, name := range functionNames() {
		for n := range 3 {
			Call(name, args[:n])
		}
	}
	if !slices.Equal(nodes, kept) || !slices.Equal(list, keptCode) || !same(names, keptNames) || !slices.EqualFunc(l, keptList, same) || !slices.EqualFunc(args, keptArgs, same) {
		t.Error(nodes, list, print(names), print(l...), print(args...))
	}
}

// memory is where the lists and the texts of a value lie; twice if two of them share any.
func memory(v api.Value, lists map[*api.Value]int, names map[*string]int, texts map[*byte]int) {
	if cap(v.List) > 0 {
		lists[&v.List[:1][0]]++
	}
	if cap(v.Names) > 0 {
		names[&v.Names[:1][0]]++
	}
	for _, s := range append(v.Names, v.Text) {
		if s != "" {
			texts[unsafe.StringData(s)]++
		}
	}
	for _, w := range v.List {
		memory(w, lists, names, texts)
	}
}

// P15.5: a result shares no memory with an argument, and no two lists of one result share any.
func TestNewMemory(t *testing.T) {
	names := read(t, `{s: "some text", l: [1, ["within"]], c: {entry: [2], other: {name: "value"}}}`)
	for _, s := range []string{"l", "c", "s", "[l, l]", "{a: c, b: c}", "append(l, l)", "append([l], c)", "c.other", "[c.other, c.other]", "[if true then l else c, c]", `["literal of the nodes", s, {a: "literal"}]`, "[append(l, c), append(l, c)]", `if l in (l) then [l, c] else 1`, `s + ""`, "upper(s)", "lower(s)", "substring(s, 1, 9)"} {
		nodes := parse(t, s, false)
		list, _ := code.Compile(nodes, false)
		v, _ := Eval(nodes, names)
		w, _ := Run(list, false, names, names)
		for _, result := range []api.Value{v, w} {
			lists, namesAt, texts := map[*api.Value]int{}, map[*string]int{}, map[*byte]int{}
			memory(names, lists, namesAt, texts)
			memory(api.Value{Kind: api.List}, lists, namesAt, texts)
			for _, n := range nodes {
				memory(api.Value{Text: n.Text}, lists, namesAt, texts)
			}
			memory(result, lists, namesAt, texts)
			own, ownNames, ownTexts := map[*api.Value]int{}, map[*string]int{}, map[*byte]int{}
			memory(result, own, ownNames, ownTexts)
			for p := range own {
				if lists[p] != 1 {
					t.Errorf("a list of %s is shared", s)
				}
			}
			for p := range ownNames {
				if namesAt[p] != 1 {
					t.Errorf("names of %s are shared", s)
				}
			}
			for p := range ownTexts {
				if texts[p] != 1 {
					t.Errorf("a text of %s is shared", s)
				}
			}
		}
	}
	args := []api.Value{names.List[1], names.List[2]}
	v, _ := Call("append", args)
	lists, namesAt, texts := map[*api.Value]int{}, map[*string]int{}, map[*byte]int{}
	memory(v, lists, namesAt, texts)
	memory(args[0], lists, namesAt, texts)
	memory(args[1], lists, namesAt, texts)
	for _, n := range lists {
		if n != 1 {
			t.Error("append shares a list")
		}
	}
	for _, n := range texts {
		if n != 1 {
			t.Error("append shares a text")
		}
	}
}
