package unary

import (
	"slices"
	"strings"
	"testing"
	"unsafe"

	"tariff/api"
	"tariff/value"
)

// samples is values of all kinds, at and beside those that stand in the tests.
func samples(t *testing.T) []api.Value {
	return valuesOf(t, "null", "true", "false", "0", "1", "2", "3", "4", "5", "6", "-1", "-2.5", "2.5", "-3", "2.500000000000000001", "0.000000000000000001", "9999999999999999999999999999999999", "-9999999999999999999999999999999999",
		`""`, `"a"`, `"ab"`, `"b"`, `"B"`, `"é"`, `"1"`, `@"2024-02-29"`, `@"2024-03-01"`, `@"0001-01-01"`, `@"9999-12-31"`, "[]", "[1]", "[null]", "{}", "{a: 1}", "[[1, 2], {b: true}]")
}

// P12.1: the chapter's examples of Plain, Ends and Only.
func TestPlainExamples(t *testing.T) {
	for s, want := range map[string]bool{
		"1, [2..-3), > \"a\"": true, "1 + 1": false, "x": false, "null": false, "--1": false, "-": true, "-1": true, "- 1": true, "-(1)": true, "(1)": true, "(-1)": true, "-(-1)": false, "not(1)": true, "not(x)": false, "not(1, x)": false, "1, x": false, "x, 1": false, "[1..x]": false, "[x..1]": false, "[1..2]": true, "(-1..-2)": true, "[--1..2]": false,
		"true": true, "false": true, "\"\"": true, "@\"2024-02-29\"": true, "-\"a\"": false, "-true": false, "-x": false, "-null": false, "-@\"2024-02-29\"": false, "[1, 2]": false, "[]": false, "{}": false, "{a: 1}": false, "f()": false, "1.a": false, "-1.a": false, "(1 in (2))": false, "1, (2 in (3))": false, "(1 between 1 and 2)": false, "(if true then 1 else 2)": false, "(true and true)": false, "1 - 1": false, "-1 * 2": false, "< null": false, "<= 1": true, ">= -1": true, "> 1 / 2": false,
	} {
		nodes := nodesOf(t, s)
		if got, e := Plain(nodes); got != want || e != api.OK {
			t.Errorf("Plain(%q): %v %v", s, got, e)
		}
		if e := hold(t, nodes, samples(t)...); (e == api.OK) != want || e != api.OK && e != api.ErrCannot {
			t.Errorf("Ends(%q): %v is wanted", s, e)
		}
	}
	for s, want := range map[string]string{
		"1, [2..-3), 1": "[1, 2, -3, 1]", "-": "[]", "not(1, -1, 1)": "[1, -1, 1]", "-0": "[0]", "< \"b\", \"a\"": "[\"b\", \"a\"]", "true, false, @\"2024-02-29\"": "[true, false, @\"2024-02-29\"]", "(2..1]": "[2, 1]", "not([-1..-2], > -3)": "[-1, -2, -3]", "0.5, -0.50": "[0.5, -0.5]",
	} {
		got, e := Ends(nodesOf(t, s))
		if !equal(got, valuesOf(t, want)[0].List) || e != api.OK {
			t.Errorf("Ends(%q): %v %v", s, got, e)
		}
	}
	for s, want := range map[string]string{
		"1, 2": "[1, 2]", "1, > 2": "", "> 2, 1": "", "-": "", "not(1, 2)": "", "[1..1]": "", "1, [1..2]": "", "-1": "[-1]", "2, 1, 2": "[2, 1, 2]", "< 1": "", "<= 1": "", ">= 1": "", "\"a\", true, @\"2024-02-29\"": "[\"a\", true, @\"2024-02-29\"]",
	} {
		got, ok, e := Only(nodesOf(t, s))
		wanted := []api.Value(nil)
		if want != "" {
			wanted = valuesOf(t, want)[0].List
		}
		if !equal(got, wanted) || ok != (want != "") || e != api.OK {
			t.Errorf("Only(%q): %v %v %v", s, got, ok, e)
		}
	}
	for _, s := range []string{"x", "1, x", "> 1, x", "not(x)", "null", "1, 1 + 1"} {
		if got, ok, e := Only(nodesOf(t, s)); len(got) != 0 || ok || e != api.ErrCannot {
			t.Errorf("Only(%q): %v %v %v", s, got, ok, e)
		}
		if got, e := Ends(nodesOf(t, s)); len(got) != 0 || e != api.ErrCannot {
			t.Errorf("Ends(%q): %v %v", s, got, e)
		}
	}
}

// P12.2: the chapter's examples of Match, and each test below, at and above its ends.
func TestMatchExamples(t *testing.T) {
	for _, c := range [][3]string{
		{"< 5", "4", "true"}, {"< 5", `"x"`, "null"}, {"< 5", "null", "null"}, {"[1..5)", "5", "false"}, {"not(1, 2)", "3", "true"}, {`1, "a"`, `"b"`, "null"}, {"-", "null", "true"}, {"not(1)", "null", "true"},
		{"< 5", "5", "false"}, {"< 5", "6", "false"}, {"<= 5", "4", "true"}, {"<= 5", "5", "true"}, {"<= 5", "6", "false"}, {"> 5", "4", "false"}, {"> 5", "5", "false"}, {"> 5", "6", "true"}, {">= 5", "4", "false"}, {">= 5", "5", "true"}, {">= 5", "6", "true"},
		{"[1..5]", "0", "false"}, {"[1..5]", "1", "true"}, {"[1..5]", "3", "true"}, {"[1..5]", "5", "true"}, {"[1..5]", "6", "false"}, {"(1..5]", "1", "false"}, {"(1..5]", "5", "true"}, {"(1..5)", "1", "false"}, {"(1..5)", "5", "false"}, {"(1..5)", "2", "true"}, {"[1..5)", "1", "true"}, {"[1..5)", "4.999999999999999999", "true"}, {"[5..1]", "3", "false"}, {"[1..1]", "1", "true"}, {"(1..1)", "1", "false"}, {"[1..1)", "1", "false"},
		{`[1.."a"]`, "3", "null"}, {`[1.."a"]`, "0", "false"}, {`["a"..1]`, "3", "false"}, {`["a"..1]`, "0", "null"}, {`["a".."c")`, `"bz"`, "true"}, {`["a".."c")`, `"c"`, "false"}, {`[@"2024-01-01"..@"2024-12-31"]`, `@"2024-12-31"`, "true"}, {"[true..false]", "true", "null"}, {"[1..2]", "null", "null"}, {"[1..2]", "[1]", "null"},
		{"1", "1", "true"}, {"1", "2", "false"}, {"1", `"1"`, "null"}, {"1", "null", "false"}, {"1", "[1]", "null"}, {"1", "{}", "null"}, {"true", "true", "true"}, {"true", "false", "false"}, {"true", "1", "null"}, {"< true", "false", "null"}, {">= true", "true", "null"}, {"-0", "0", "true"}, {"-1", "-1", "true"}, {"-1", "1", "false"}, {`< "b"`, `"a"`, "true"}, {`<= @"2024-02-29"`, `@"2024-02-29"`, "true"},
		{"-", "{a: 1}", "true"}, {`1, "b"`, `"b"`, "true"}, {`"b", 1`, `"b"`, "true"}, {"1, 2", "3", "false"}, {"1, 2", "2", "true"}, {"1, < 0, [5..6]", "5.5", "true"}, {`1, "a", 2`, "3", "null"}, {"not(1, 2)", "2", "false"}, {`not(1, "a")`, `"b"`, "null"}, {`not(1, "a")`, "1", "false"}, {"not(< 5)", "null", "null"}, {"not([1..5))", "5", "true"}, {"not(> 5)", "[1]", "null"},
	} {
		v := valuesOf(t, c[1], c[2])
		nodes := nodesOf(t, c[0])
		if got, e := Match(nodes, v[0]); !value.Same(got, v[1]) || e != api.OK {
			t.Errorf("Match(%s, %s): %v %v, want %s", c[0], c[1], got, e, c[2])
		}
		hold(t, nodes, v[0])
	}
}

// P12.1, P12.2: each test of each literal, alone, beside another and within a not, for values of all kinds.
func TestEachTest(t *testing.T) {
	ends := []string{"0", "1", "-2.5", "5", "true", "false", `"a"`, `""`, `@"2024-02-29"`, `@"0001-01-01"`}
	var list []string
	for _, x := range ends {
		for _, sign := range []string{"", "< ", "<= ", "> ", ">= "} {
			list = append(list, sign+x)
		}
		for _, y := range ends {
			for _, pair := range []string{"[]", "[)", "(]", "()"} {
				list = append(list, pair[:1]+x+".."+y+pair[1:])
			}
		}
	}
	values := samples(t)
	for i, s := range list {
		other := list[(i*37+11)%len(list)]
		for _, all := range []string{s, "not(" + s + ")", s + ", " + other, "not(" + other + ", " + s + ")"} {
			if e := hold(t, nodesOf(t, all), values...); e != api.OK {
				t.Errorf("%s: %v", all, e)
			}
		}
	}
}

// P12.1: each kind of node that is no literal, in each place of each test.
func TestNoLiteral(t *testing.T) {
	for _, x := range []string{
		"null", "x", "--1", "-x", "-null", "-true", `-"a"`, "(-(1))", "1 + 1", "1 - 1", "1 * 1", "1 / 1", "(1 = 1)", "(1 != 1)", "(1 < 1)", "(1 <= 1)", "(1 > 1)", "(1 >= 1)", "(true and true)", "(true or true)", "(if true then 1 else 1)", "(1 between 1 and 1)", "(1 in (1))", "(1 in (-1, [1..2]))", "1.a", "f()", "f(1)", "([1])", "[]", "{}", "{a: 1}", "-(1 + 1)", "-1.a", "(-1).a", "-f(1)", "-[1]",
	} {
		want := api.ErrCannot
		if x == "(-(1))" {
			want = api.OK
		}
		for _, form := range []string{"?", "< ?", "<= ?", "> ?", ">= ?", "[?..1]", "[1..?]", "(?..1)", "(1..?)", "[?..?)", "1, ?", "?, 1", "not(?)", "not(1, ?)", "not([1..?], 1)", "1, 2, < ?, 3"} {
			if e := hold(t, nodesOf(t, strings.ReplaceAll(form, "?", x)), samples(t)[:6]...); e != want {
				t.Errorf("%s of %s: %v", form, x, e)
			}
		}
	}
}

// P1, P12.1, P12.2: the errors in their order: of the nodes, of the value, then that they are not plain.
func TestErrors(t *testing.T) {
	deep := api.Value{}
	for range 16 {
		deep = api.Value{Kind: api.List, List: []api.Value{deep}}
	}
	own := api.Value{Kind: api.List, List: make([]api.Value, 1)}
	own.List[0] = own
	values := []struct {
		v api.Value
		e api.Errno
	}{
		{api.Value{}, api.OK}, {own, api.ErrLong}, {api.Value{Kind: api.List, List: make([]api.Value, 1000)}, api.ErrLong}, {api.Value{Kind: api.List, List: make([]api.Value, 999)}, api.OK}, {deep, api.ErrDeep}, {deep.List[0], api.OK}, {api.Value{Kind: 7}, api.ErrForm}, {api.Value{Kind: -1}, api.ErrForm}, {api.Value{Yes: true}, api.ErrForm}, {api.Value{Kind: api.Date}, api.ErrForm}, {api.Value{Kind: api.Text, Text: "\xff"}, api.ErrForm},
	}
	long := func(n int) []api.Node {
		return append(slices.Repeat([]api.Node{{Op: api.OTrue}, {Op: api.OIs, Kids: 1}}, n), api.Node{Op: api.OSome, Kids: n})
	}
	stretch := func(n int) []api.Node {
		return slices.Concat([]api.Node{{Op: api.ONum}}, slices.Repeat([]api.Node{{Op: api.ONeg, Kids: 1}}, n), []api.Node{{Op: api.OIs, Kids: 1}, {Op: api.OSome, Kids: 1}})
	}
	for i, c := range []struct {
		nodes []api.Node
		e     api.Errno
	}{
		{nil, api.ErrForm}, {[]api.Node{}, api.ErrForm}, {long(149), api.OK}, {long(150), api.ErrLong}, {make([]api.Node, 300), api.ErrForm}, {make([]api.Node, 301), api.ErrLong}, {stretch(0), api.OK}, {stretch(1), api.OK}, {stretch(2), api.ErrCannot}, {stretch(37), api.ErrCannot}, {stretch(38), api.ErrDeep}, {stretch(297), api.ErrDeep}, {stretch(298), api.ErrLong},
		{[]api.Node{{Op: api.ONum}}, api.ErrForm}, {[]api.Node{{Op: api.OTrue}, {Op: api.OIs, Kids: 1}}, api.ErrForm}, {[]api.Node{{Op: api.ONeg, Kids: 1}}, api.ErrForm}, {[]api.Node{{Op: api.ONeg}}, api.ErrForm}, {[]api.Node{{Op: api.OAny}}, api.OK}, {[]api.Node{{Op: api.OAny}, {Op: api.OAny}}, api.ErrForm}, {[]api.Node{{Op: api.OAny, Kids: 1}}, api.ErrForm}, {[]api.Node{{Op: api.OSome}}, api.ErrForm}, {[]api.Node{{Op: api.OAny}, {Op: api.ONot, Kids: 1}}, api.ErrForm}, {[]api.Node{{Op: api.OName, Text: "x"}, {Op: api.OIs, Kids: 1}, {Op: api.OSome, Kids: 1}, {Op: api.ONot, Kids: 2}}, api.ErrForm},
		{[]api.Node{{Op: api.OTrue}, {Op: api.OTrue}, {Op: api.OSpan, Kids: 2, Text: "]["}, {Op: api.OSome, Kids: 1}}, api.ErrForm}, {[]api.Node{{Op: api.OTrue}, {Op: api.OTrue}, {Op: api.OSpan, Kids: 2}, {Op: api.OSome, Kids: 1}}, api.ErrForm}, {[]api.Node{{Op: api.OText, Text: strings.Repeat("a", 1000)}, {Op: api.OIs, Kids: 1}, {Op: api.OSome, Kids: 1}}, api.OK}, {[]api.Node{{Op: api.OText, Text: strings.Repeat("a", 1001)}, {Op: api.OIs, Kids: 1}, {Op: api.OSome, Kids: 1}}, api.ErrForm}, {[]api.Node{{Op: api.ODate}, {Op: api.OIs, Kids: 1}, {Op: api.OSome, Kids: 1}}, api.ErrForm},
	} {
		for _, v := range values {
			want := c.e
			if v.e != api.OK && (want == api.OK || want == api.ErrCannot) {
				want = v.e
			}
			if got, e := Match(c.nodes, v.v); e != want || e != api.OK && !value.Same(got, api.Value{}) {
				t.Errorf("case %d: %v %v, want %v", i, got, e, want)
			}
			if e := hold(t, c.nodes, v.v); e != c.e {
				t.Errorf("case %d: %v, want %v", i, e, c.e)
			}
		}
	}
}

// P12.1, P12.2: random tests, and the same ones with something changed.
func TestRandom(t *testing.T) {
	s := &source{state: 61}
	seen := map[api.Errno]int{}
	values := samples(t)
	for range 20000 {
		nodes := nodesOf(t, s.tests(12))
		v, w := values[s.below(len(values))], values[s.below(len(values))]
		seen[hold(t, nodes, v, w)]++
		at := s.below(len(nodes))
		switch s.below(6) {
		case 0:
			nodes[at].Op = s.below(39)
		case 1:
			nodes[at].Kids += s.below(3) - 1
		case 2:
			nodes = append(nodes[:at], nodes[at+1:]...)
		case 3:
			nodes = slices.Insert(nodes, at, nodes[s.below(len(nodes))])
		case 4:
			nodes[at].Text = s.pick("", "a", "[]", "(]")
		case 5:
			nodes = slices.Insert(nodes, at, api.Node{Op: api.ONeg, Kids: 1})
		}
		seen[hold(t, nodes, v, api.Value{Kind: s.below(8)})]++
	}
	if seen[api.OK] < 10000 || seen[api.ErrCannot] < 3000 || seen[api.ErrForm] < 5000 {
		t.Error(seen)
	}
}

// P12.3: nothing is put into the spare room of an argument; a result shares no memory with an argument,
// nor with another result.
func TestNewMemory(t *testing.T) {
	nodes := append(nodesOf(t, `"abc", -1, "de"`), api.Node{Op: api.ONum, Num: num(t, "7")}, api.Node{Op: api.OText, Text: "spare"})
	kept := slices.Clone(nodes)
	some := nodes[:len(nodes)-2]
	items := []api.Value{{Kind: api.Text, Text: "abc"}, {}, {Kind: api.Bool, Yes: true}}
	for _, v := range []api.Value{items[0], {Kind: api.List, List: items[:1]}, {Kind: api.Ctx, List: items[:1], Names: []string{"a"}}} {
		Match(some, v)
		hold(t, some, v)
	}
	Plain(some)
	first, _ := Ends(some)
	second, ok, _ := Only(some)
	if len(first) != 3 || len(second) != 3 || !ok {
		t.Fatal(first, second)
	}
	for i, k := range []int{0, 5} {
		from := nodes[k].Text
		for _, list := range [][]api.Value{first, second} {
			if got := list[2*i].Text; got != from || unsafe.StringData(got) == unsafe.StringData(from) {
				t.Errorf("%q shares the memory of %q", got, from)
			}
		}
	}
	first = append(first, api.Value{}, api.Value{})
	for i := range first[:cap(first)] {
		first[:cap(first)][i] = api.Value{Kind: api.Date, Day: 9}
	}
	if third, _ := Ends(some); !equal(third, second) || third[0].Text != "abc" || !slices.Equal(nodes, kept) || items[1].Kind != api.Null || !items[2].Yes {
		t.Error(third, second, nodes)
	}
}
