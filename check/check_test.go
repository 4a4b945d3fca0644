package check

import (
	"fmt"
	"math"
	"slices"
	"strings"
	"testing"

	"tariff/api"
	"tariff/expr"
	"tariff/kind"
)

// P13.1: the functions of the chapter's table, and nothing else.
func TestFunction(t *testing.T) {
	if len(functionNames()) != 25 {
		t.Error(functionNames())
	}
	for _, name := range functionNames() {
		params, result, _ := wantFunction(name)
		var want []api.Type
		for _, p := range params {
			want = append(want, typeOf(p))
		}
		got, out, e := Function(name)
		if !slices.Equal(got, want) || out != typeOf(result) || e != api.OK {
			t.Errorf("Function(%s): %v %v %v", name, got, out, e)
		}
	}
	wrong := []string{"", "f", "x", "if", "null", "not", "number", "boolean", "any", "list", "\xff", "\x00", "time", "mod", "floor ", strings.Repeat("a", 1<<20)}
	for _, name := range functionNames() {
		wrong = append(wrong, name+" ", " "+name, strings.ToUpper(name), strings.ToUpper(name[:1])+name[1:], name+"\x00", name[:len(name)-1]+"_", name+"x", name+"(", name[1:])
	}
	for _, name := range wrong {
		if got, out, e := Function(name); len(got) != 0 || out != (api.Type{}) || e != api.ErrName {
			t.Errorf("Function(%.20q): %v %v %v", name, got, out, e)
		}
	}
}

// The names of the chapter's examples.
func exampleNames() []api.Sym {
	return []api.Sym{{Name: "x", Type: typeOf("number")}, {Name: "s", Type: typeOf("string")}, {Name: "l", Type: typeOf("list<number>")}, {Name: "v"}}
}

// P13.2: the chapter's examples, and the edges of its table.
func TestExprExamples(t *testing.T) {
	for s, want := range map[string]string{
		"x + 1": "number", "s + \"a\"": "string", "v + v": "any", "v + 1": "number", "1 + v": "number", "v + s": "string", "s + v": "string", "if x > 1 then x else s": "any", "[1, x]": "list<number>", "[1, s]": "list<any>", "sum(l) / count(l)": "number", "x in (1, > 2)": "boolean", "v.a": "any", "v.a.b": "any", "null + null": "any", "null - null": "number", "-null": "number",
		"null": "any", "true": "boolean", "false": "boolean", "1": "number", `""`: "string", `@"2024-02-29"`: "date", "[]": "list<any>", "{}": "any", "{a: x, b: s}": "any", "{a: x}.a": "any", "[null]": "list<any>", "[v]": "list<any>", "[l]": "list<any>", "[[]]": "list<any>", "[true]": "list<boolean>", "[s, s]": "list<string>", `[@"2024-02-29"]`: "list<date>", "[{}]": "list<any>", "[1, null]": "list<any>", "[null, 1]": "list<any>", "[1, 1, s]": "list<any>", "[l, l]": "list<any>", "[1, 2, 3]": "list<number>",
		"if v then x else x": "number", "if true then l else [s]": "list<any>", "if true then l else []": "list<any>", "if true then x else null": "any", "if null then s else s": "string", "if true then l else l": "list<number>", "v = 1": "boolean", "l = []": "boolean", "l != l": "boolean", "null = l": "boolean", "true = false": "boolean", "{} = 1": "boolean", "v < v": "boolean", "v < 1": "boolean", "s <= v": "boolean", `@"2024-02-29" > v`: "boolean", "x between v and 3": "boolean", "v between 1 and s": "boolean", "v between v and v": "boolean",
		"x in (v)": "boolean", "v in (1, \"a\", true)": "boolean", "v in (< 1, > s)": "boolean", "v in ([1..s])": "boolean", "s in ([\"a\"..\"b\"), s)": "boolean", "true in (true, false)": "boolean", "l in ([], [1], v)": "boolean", "(1 in (2)) = true": "boolean", "abs(v)": "number", "min(l)": "number", "max([])": "number", "sum(v)": "number", "count([s])": "number", "append(l, s)": "list<any>", "append([], l)": "list<any>", "append(null, null)": "list<any>", "string(l)": "string", "string({})": "string", "date(s)": "date", "days(date(s), 1)": "date", "substring(s, 1, x)": "string", "negate(v)": "boolean", "starts(s, upper(s))": "boolean", "weekday(months(v, v))": "number",
	} {
		nodes := parse(t, s)
		got, e := Expr(nodes, exampleNames())
		if got != typeOf(want) || e != api.OK {
			t.Errorf("Expr(%q): %v %v, want %s", s, got, e, want)
		}
		hold(t, nodes, exampleNames())
	}
	for s, want := range map[string]api.Errno{
		"x + s": api.ErrType, "y": api.ErrName, "f(x)": api.ErrName, "abs(s)": api.ErrType, "abs(x, x)": api.ErrType, "abs()": api.ErrType, "x in (\"a\")": api.ErrType, "x.a": api.ErrType, "x = y + s": api.ErrName, "(x + s) = y": api.ErrType, "f(y + s)": api.ErrName, "f(x + s)": api.ErrType, "f(f(x) + s)": api.ErrName, "f()": api.ErrName, "x(1)": api.ErrName, "abs": api.ErrName, "v.y": api.OK, "{y: 1}": api.OK, "l.a": api.ErrType, "[].a": api.ErrType, "s.a": api.ErrType, "true.a": api.ErrType,
		"-s": api.ErrType, "-true": api.ErrType, "-l": api.ErrType, "x + true": api.ErrType, "true + true": api.ErrType, "l + l": api.ErrType, "v + true": api.ErrType, "v + l": api.ErrType, `@"2024-02-29" + 1`: api.ErrType, "s - s": api.ErrType, "s * 2": api.ErrType, "x / s": api.ErrType, "v - s": api.ErrType, "x = s": api.ErrType, "l = 1": api.ErrType, "l = [s]": api.ErrType, "true < false": api.ErrType, "l < l": api.ErrType, "v < true": api.ErrType, "x >= s": api.ErrType, "v <= l": api.ErrType, "x and true": api.ErrType, "true or s": api.ErrType, "v and 1": api.ErrType,
		"if x then 1 else 1": api.ErrType, "if s then v else v": api.ErrType, "x between s and 1": api.ErrType, "x between 1 and s": api.ErrType, "true between true and true": api.ErrType, "v between true and 1": api.ErrType, "x in (1, s)": api.ErrType, "x in (< s)": api.ErrType, "x in ([1..s])": api.ErrType, "x in ([s..1])": api.ErrType, "true in (< true)": api.ErrType, "v in (>= true)": api.ErrType, "l in ([s])": api.ErrType, "v in ([1..true])": api.ErrType, "x in (s, y)": api.ErrName, "y in (s + x)": api.ErrName, "min([s])": api.ErrType, "sum([1, s])": api.OK, "count(1)": api.ErrType, "append(1, l)": api.ErrType, "append(l)": api.ErrType, "string()": api.ErrType, "string(1, 2)": api.ErrType, "contains(s, 1)": api.ErrType, "substring(s, 1)": api.ErrType, "days(1, 1)": api.ErrType, "year(s)": api.ErrType, "upper(x)": api.ErrType, "negate(1)": api.ErrType,
		"{a: x + s}": api.ErrType, "{a: y}": api.ErrName, "[y]": api.ErrName, "[1, -s]": api.ErrType,
	} {
		nodes := parse(t, s)
		got, e := Expr(nodes, exampleNames())
		if e != want || e != api.OK && got != (api.Type{}) {
			t.Errorf("Expr(%q): %v %v, want %v", s, got, e, want)
		}
		hold(t, nodes, exampleNames())
	}
}

// P13.3: the chapter's examples, and the edges of what fits.
func TestTestsExamples(t *testing.T) {
	for _, c := range []struct {
		s, of string
		want  api.Errno
	}{
		{"< 5", "number", api.OK}, {"\"a\"", "number", api.ErrType}, {"-", "date", api.OK}, {"true", "any", api.OK}, {"< true", "any", api.ErrType}, {"-", "any", api.OK}, {"-", "list<date>", api.OK},
		{"1, 2", "number", api.OK}, {"1, \"a\"", "number", api.ErrType}, {"\"a\", 1", "number", api.ErrType}, {"1, \"a\"", "any", api.OK}, {"not(1)", "number", api.OK}, {"not(1)", "string", api.ErrType}, {"not(1, \"a\")", "number", api.ErrType}, {"not(< 1)", "boolean", api.ErrType}, {"null", "boolean", api.OK}, {"< null", "number", api.OK}, {"< null", "boolean", api.ErrType}, {"true", "boolean", api.OK}, {">= true", "boolean", api.ErrType}, {"[1..2)", "number", api.OK}, {"[1..\"a\")", "number", api.ErrType}, {"[\"a\"..1)", "number", api.ErrType}, {"[1..\"a\")", "any", api.OK}, {"[1..true]", "any", api.ErrType},
		{"[1]", "list<number>", api.OK}, {"[1]", "list<any>", api.OK}, {"[]", "list<number>", api.OK}, {"[1]", "list<string>", api.ErrType}, {"1", "list<number>", api.ErrType}, {"< [1]", "list<number>", api.ErrType}, {"{}", "number", api.OK}, {"x", "number", api.OK}, {"s", "number", api.ErrType}, {"y", "number", api.ErrName}, {"s, y", "number", api.ErrName}, {"s, x + s", "number", api.ErrType}, {"f(x), s", "number", api.ErrName}, {"(x in (1))", "boolean", api.OK}, {"(x in (1))", "number", api.ErrType}, {"(x in (s))", "any", api.ErrType}, {"@\"2024-02-29\"", "date", api.OK}, {"<= @\"2024-02-29\"", "date", api.OK}, {"> @\"2024-02-29\"", "string", api.ErrType},
	} {
		nodes := testsOf(t, c.s)
		if e := Tests(nodes, typeOf(c.of), exampleNames()); e != c.want {
			t.Errorf("Tests(%q, %s): %v, want %v", c.s, c.of, e, c.want)
		}
		hold(t, nodes, exampleNames(), allTypes()...)
	}
}

// fill puts names of types in the place of each ?.
func fill(form string, types ...int) string {
	for _, k := range types {
		form = strings.Replace(form, "?", fmt.Sprint("t", k), 1)
	}
	return form
}

// P13.2: each operation with parts of each type.
func TestEachOperation(t *testing.T) {
	names := scopeOf()
	seen := map[api.Errno]int{}
	check := func(form string, types ...int) {
		nodes := parse(t, fill(form, types...))
		hold(t, nodes, names)
		_, e := wantExpr(nodes, names)
		seen[e]++
	}
	for a := range typeNames {
		for _, form := range []string{"?", "-?", "?.a", "[?]", "{a: ?}", "{a: ?}.a", "[[?]]", "if ? then 1 else 1"} {
			check(form, a)
		}
		for b := range typeNames {
			for _, op := range []string{"+", "-", "*", "/", "=", "!=", "<", "<=", ">", ">=", "and", "or"} {
				check("? "+op+" ?", a, b)
			}
			for _, form := range []string{"[?, ?]", "{a: ?, b: ?}", "? in (?)", "? in (< ?)", "? in (<= ?)", "? in (> ?)", "? in (>= ?)", "[?, t2, ?]"} {
				check(form, a, b)
			}
			for c := range typeNames {
				for _, form := range []string{"if ? then ? else ?", "? between ? and ?", "? in ([?..?])", "? in ((?..?))", "? in (?, ?)", "? in (?, < ?)", "? in (> ?, ?)", "[?, ?, ?]"} {
					check(form, a, b, c)
				}
			}
		}
	}
	if seen[api.OK] < 1500 || seen[api.ErrType] < 5000 {
		t.Error(seen)
	}
}

// P13.2: each function with as many parts as it has parameters, and with one less and one more, of each type.
func TestEachFunction(t *testing.T) {
	names := scopeOf()
	seen := map[api.Errno]int{}
	for _, name := range append(functionNames(), "f", "any", "t2") {
		params, _, _ := wantFunction(name)
		for count := range len(params) + 2 {
			args := make([]int, count)
			for more := true; more; {
				call := name + "(" + strings.TrimSuffix(strings.Repeat("?, ", count), ", ") + ")"
				nodes := parse(t, fill(call, args...))
				hold(t, nodes, names)
				_, e := wantExpr(nodes, names)
				seen[e]++
				more = next(args)
			}
		}
	}
	if seen[api.OK] < 100 || seen[api.ErrType] < 1000 || seen[api.ErrName] < 30 {
		t.Error(seen)
	}
}

// next counts on; false if it has come round. From four digits on it counts in steps.
func next(digits []int) bool {
	for i := range digits {
		digits[i]++
		if len(digits) > 3 && digits[i] == 3 {
			digits[i] = 7
		}
		if digits[i] < len(typeNames) {
			return true
		}
		digits[i] = 0
	}
	return false
}

// P13.3: each test of parts of each type, for each type.
func TestEachTest(t *testing.T) {
	names := scopeOf()
	seen := map[api.Errno]int{}
	check := func(form string, types ...int) {
		nodes := testsOf(t, fill(form, types...))
		for _, of := range allTypes() {
			seen[hold(t, nodes, names, of)]++
		}
	}
	check("-")
	for a := range typeNames {
		for _, form := range []string{"?", "< ?", "<= ?", "> ?", ">= ?", "not(?)", "not(< ?)", "-?", "[?]", "(? in (t0))"} {
			check(form, a)
		}
		for b := range typeNames {
			for _, form := range []string{"[?..?]", "(?..?)", "?, ?", "?, > ?", "not(?, ?)", "not(?, <= ?)", "[?, ?]", "y, ?", "not([?..?))"} {
				check(form, a, b)
			}
		}
	}
	if seen[api.OK] < 1000 || seen[api.ErrType] < 3000 || seen[api.ErrName] < 100 {
		t.Error(seen)
	}
}

// symbols is so many names of a type.
func symbols(n int, of api.Type) []api.Sym {
	var list []api.Sym
	for i := range n {
		list = append(list, api.Sym{Name: fmt.Sprint("n", i), Type: of})
	}
	return list
}

// P1, P13.2, P13.3: the errors in their order: of the nodes, too many names, names or a type that are not
// in form, then those of the types.
func TestErrors(t *testing.T) {
	number := typeOf("number")
	one := func(name string, of api.Type) []api.Sym { return []api.Sym{{Name: name, Type: of}} }
	scopes := []struct {
		names []api.Sym
		e     api.Errno
	}{
		{nil, api.OK}, {symbols(100, number), api.OK}, {symbols(101, number), api.ErrLong}, {make([]api.Sym, 100), api.ErrForm}, {make([]api.Sym, 101), api.ErrLong}, {make([]api.Sym, 100000), api.ErrLong}, {append(symbols(99, number), one("n0", number)...), api.ErrForm}, {append(symbols(100, number), one("n0", number)...), api.ErrLong}, {append(symbols(2, number), one("n1", typeOf("string"))...), api.ErrForm},
		{one("a", api.Type{}), api.OK}, {one("", number), api.ErrForm}, {one("if", number), api.ErrForm}, {one("1", number), api.ErrForm}, {one("a b", number), api.ErrForm}, {one("a.b", number), api.ErrForm}, {one("\xff", number), api.ErrForm}, {one(strings.Repeat("a", 64), number), api.OK}, {one(strings.Repeat("a", 65), number), api.ErrForm}, {one("_", number), api.OK}, {one("abs", number), api.OK},
		{one("a", api.Type{Kind: 6}), api.ErrForm}, {one("a", api.Type{Kind: -1}), api.ErrForm}, {one("a", api.Type{Kind: 2, Of: 1}), api.ErrForm}, {one("a", api.Type{Kind: 5, Of: 5}), api.ErrForm}, {one("a", api.Type{Kind: 5, Of: 4}), api.OK}, {one("a", api.Type{Kind: 5, Of: -1}), api.ErrForm}, {one("a", api.Type{Of: 1}), api.ErrForm}, {append(symbols(3, number), one("a", api.Type{Kind: 7})...), api.ErrForm}, {append(one("", number), symbols(3, number)...), api.ErrForm},
	}
	types := append(allTypes(), api.Type{Kind: 6}, api.Type{Kind: -1}, api.Type{Kind: 2, Of: 2}, api.Type{Kind: 5, Of: 5}, api.Type{Of: 3}, api.Type{Kind: math.MaxInt}, api.Type{Kind: 5, Of: math.MinInt})
	deep := func(n int) []api.Node {
		return append([]api.Node{{Op: api.ONum}}, slices.Repeat([]api.Node{{Op: api.ONeg, Kids: 1}}, n-1)...)
	}
	lists := [][]api.Node{
		nil, parse(t, "1"), parse(t, "y"), parse(t, "n0"), parse(t, "n99 + 1"), parse(t, "1 + true"), parse(t, "1 + y"), {{Op: api.OAdd, Kids: 2}}, {{Op: api.ONum}, {Op: api.ONum}}, make([]api.Node, 300), make([]api.Node, 301), deep(40), deep(41), append(deep(41), api.Node{Op: api.OPath, Kids: 1, Text: "a"}), {{Op: api.OName, Text: "1"}}, {{Op: api.OCall, Text: "f", Kids: 9}},
		testsOf(t, "-"), testsOf(t, "1"), testsOf(t, "y, 1"), testsOf(t, "n0, < 1"), testsOf(t, "not(\"a\")"), testsOf(t, "1 + true"), append(deep(38), api.Node{Op: api.OIs, Kids: 1}, api.Node{Op: api.OSome, Kids: 1}), append(deep(39), api.Node{Op: api.OIs, Kids: 1}, api.Node{Op: api.OSome, Kids: 1}), {{Op: api.OAny}, {Op: api.OAny}}, {{Op: api.OSome}}, append(slices.Repeat([]api.Node{{Op: api.ONum}}, 299), api.Node{Op: api.OList, Kids: 299}),
	}
	seen := map[api.Errno]int{}
	for i, c := range scopes {
		if e := wantNames(c.names); e != c.e {
			t.Errorf("names %d: %v, want %v", i, e, c.e)
		}
		if k, e := Expr(parse(t, "1"), c.names); e != c.e || e != api.OK && k != (api.Type{}) {
			t.Errorf("names %d: %v %v, want %v", i, k, e, c.e)
		}
		for _, of := range types {
			want := c.e
			if want == api.OK && !kind.Form(of) {
				want = api.ErrForm
			}
			if e := Tests(testsOf(t, "-"), of, c.names); e != want {
				t.Errorf("names %d, %v: %v, want %v", i, of, e, want)
			}
			for _, nodes := range lists {
				seen[hold(t, nodes, c.names, of)]++
			}
		}
	}
	if len(seen) != 6 {
		t.Error(seen)
	}
}

// P13.2: a name hides no function, and a function no name.
func TestNamesOfFunctions(t *testing.T) {
	names := []api.Sym{{Name: "abs", Type: typeOf("string")}, {Name: "count", Type: typeOf("number")}}
	for s, want := range map[string]string{"abs": "string", "abs(count)": "number", "count(append([], abs))": "number", "{abs: 1}.abs": "any"} {
		if k, e := Expr(parse(t, s), names); k != typeOf(want) || e != api.OK {
			t.Errorf("Expr(%q): %v %v", s, k, e)
		}
	}
	if _, e := Expr(parse(t, "abs(abs)"), names); e != api.ErrType {
		t.Error(e)
	}
}

// P13.2, P13.3: random expressions and tests, most of them of one type, and the same ones with something changed.
func TestRandom(t *testing.T) {
	s := &source{state: 83}
	names := scopeOf()
	seen := map[api.Errno]int{}
	for range 20000 {
		name := typeNames[s.below(len(typeNames))]
		text, read := s.of(name, s.below(4), 30), expr.Parse
		if s.below(3) == 0 {
			text, read = s.tests(name, s.below(3), 30), expr.Tests
			if s.below(3) == 0 {
				text = "not(" + text + ")"
			}
		}
		nodes, e := read(text)
		if e == api.ErrLong {
			continue
		}
		if e != api.OK {
			t.Fatalf("%q: %v", text, e)
		}
		_, e = wantExpr(nodes, names)
		if f := hold(t, nodes, names, typeOf(name)); e == api.ErrForm {
			e = f
		}
		seen[e]++
		at := s.below(len(nodes))
		switch s.below(5) {
		case 0:
			nodes[at].Op = s.below(39)
		case 1:
			nodes[at].Text = s.pick("t0", "t1", "t2", "t3", "y", "abs", "append", "[]")
		case 2:
			nodes = slices.Insert(nodes, at+1, api.Node{Op: api.ONeg, Kids: 1})
		case 3:
			nodes = append(nodes[:at], nodes[at+1:]...)
		case 4:
			other := s.below(len(nodes))
			nodes[at], nodes[other] = nodes[other], nodes[at]
		}
		hold(t, nodes, names, typeOf(name), typeOf(typeNames[s.below(10)]))
	}
	if seen[api.OK] < 5000 || seen[api.ErrType] < 2000 || seen[api.ErrName] < 500 {
		t.Error(seen)
	}
}

// P13.4: nothing is put into the spare room of an argument, and a change to a result changes no other.
func TestNewMemory(t *testing.T) {
	nodes := append(parse(t, "t2 in (1, [2..3]) and count([t0, 1]) = 2"), api.Node{Op: api.OAny}, api.Node{Op: api.OAny})
	names := append(scopeOf(), api.Sym{Name: "spare"}, api.Sym{Name: "spare"})
	keptNodes, keptNames := slices.Clone(nodes), slices.Clone(names)
	if k, e := Expr(nodes[:len(nodes)-2], names[:len(names)-2]); k != typeOf("boolean") || e != api.OK {
		t.Error(k, e)
	}
	if e := Tests(nodes[len(nodes)-1:len(nodes):len(nodes)], api.Type{}, names[:len(names)-2]); e != api.OK {
		t.Error(e)
	}
	if !slices.Equal(nodes, keptNodes) || !slices.Equal(names, keptNames) {
		t.Error(nodes, names)
	}
	for _, name := range functionNames() {
		first, _, _ := Function(name)
		kept := slices.Clone(first)
		first = append(first, api.Type{Kind: 9})
		for i := range first[:cap(first)] {
			first[:cap(first)][i] = api.Type{Kind: 9}
		}
		if second, _, _ := Function(name); !slices.Equal(second, kept) {
			t.Errorf("Function(%s): %v, then %v", name, kept, second)
		}
	}
}
