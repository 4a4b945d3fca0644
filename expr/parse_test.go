package expr

import (
	"slices"
	"strconv"
	"strings"
	"testing"

	"tariff/api"
	"tariff/lex"
)

// opNames is the operations by short words.
var opNames = map[string]int{
	"null": api.ONull, "true": api.OTrue, "false": api.OFalse, "neg": api.ONeg, "+": api.OAdd, "-": api.OSub, "*": api.OMul, "/": api.ODiv, "=": api.OEq, "!=": api.ONe, "<": api.OLt, "<=": api.OLe, ">": api.OGt, ">=": api.OGe,
	"and": api.OAnd, "or": api.OOr, "if": api.OIf, "between": api.OBetween, "in": api.OIn, "path": api.OPath, "call": api.OCall, "list": api.OList, "ctx": api.OCtx, "entry": api.OEntry,
	"any": api.OAny, "is": api.OIs, "below": api.OBelow, "atmost": api.OAtMost, "above": api.OAbove, "atleast": api.OAtLeast, "span": api.OSpan, "some": api.OSome, "not": api.ONot,
}

// nodesOf is nodes written shortly: each a word, then the number of its parts if it has some, and its text, by colons;
// what is no such word is a token, a number or a name.
func nodesOf(t *testing.T, short string) []api.Node {
	t.Helper()
	var nodes []api.Node
	for _, word := range strings.Fields(short) {
		head, tail, _ := strings.Cut(word, ":")
		kids, text, _ := strings.Cut(tail, ":")
		if op, ok := opNames[head]; ok {
			n, _ := strconv.Atoi(kids)
			nodes = append(nodes, api.Node{Op: op, Kids: n, Text: text})
			continue
		}
		tokens, e := lex.Read(word)
		if e != api.OK || len(tokens) != 1 {
			t.Fatal(word)
		}
		k := tokens[0]
		nodes = append(nodes, api.Node{Op: map[int]int{api.TNum: api.ONum, api.TStr: api.OText, api.TDate: api.ODate, api.TName: api.OName}[k.Kind], Text: k.Text, Num: k.Num, Day: k.Day})
	}
	return nodes
}

// P10.2: the chapter's examples of Parse, and texts like them.
func TestParseExamples(t *testing.T) {
	for s, short := range map[string]string{
		"a + 2 * b": "a 2 b *:2 +:2", "(a)": "a", "((a))": "a", "-1": "1 neg:1", "--1": "1 neg:1 neg:1", "a.b.c": "a path:1:b path:1:c", "1.x": "1 path:1:x", "1.50": "1.5",
		"x in (1, [2..3), > 5)": "x 1 is:1 2 3 span:2:[) 5 above:1 some:3 in:2",
		"a - b - c":             "a b -:2 c -:2", "a - (b - c)": "a b c -:2 -:2", "a / b * c": "a b /:2 c *:2", "a * (b + c) / d": "a b c +:2 *:2 d /:2", "a or b or c": "a b or:2 c or:2", "a and b or c and d": "a b and:2 c d and:2 or:2",
		"-a * -b": "a neg:1 b neg:1 *:2", "-a.b": "a path:1:b neg:1", "(-a).b": "a neg:1 path:1:b", "a - -b": "a b neg:1 -:2", "a--b": "a b neg:1 -:2",
		"a = b + c": "a b c +:2 =:2", "a!=b": "a b !=:2", "a<b": "a b <:2", "a<=b": "a b <=:2", "a>b": "a b >:2", "a>=b": "a b >=:2", "(a = b) = c": "a b =:2 c =:2",
		"a between b and c and d": "a b c between:3 d and:2", "a between 1 + 2 and -3": "a 1 2 +:2 3 neg:1 between:3", "a in (b) and c": "a b is:1 some:1 in:2 c and:2",
		"if a then b else if c then d else e": "a b c d e if:3 if:3", "if if a then b else c then d else e": "a b c if:3 d e if:3", "(if a then b else c) + 1": "a b c if:3 1 +:2", "if a or b then c else d or e": "a b or:2 c d e or:2 if:3",
		"f()": "call:0:f", "f(a)": "a call:1:f", "f (a, b or c)": "a b c or:2 call:2:f", "f(1,2,3,4,5,6,7,8)": "1 2 3 4 5 6 7 8 call:8:f", "f(g(h()))": "call:0:h call:1:g call:1:f", "f(a).b": "a call:1:f path:1:b", "f(if a then b else c)": "a b c if:3 call:1:f",
		"[]": "list:0", "[[]]": "list:0 list:1", "[1, \"a\", null]": "1 \"a\" null list:3", "{}": "ctx:0", "{a: 1}": "1 entry:1:a ctx:1", "{a: 1, b: {a: 2}}": "1 entry:1:a 2 entry:1:a ctx:1 entry:1:b ctx:2", "{a: a}.a": "a entry:1:a ctx:1 path:1:a",
		"true": "true", "false": "false", "null": "null", "@\"2024-02-29\"": "@\"2024-02-29\"", "\"\"": "\"\"", "null.a": "null path:1:a", "x in ([1, 2])": "x 1 2 list:2 is:1 some:1 in:2", "x in ((1))": "x 1 is:1 some:1 in:2",
		"x in ((1..2))": "x 1 2 span:2:() some:1 in:2", "x in (y in ([1..2]))": "", "x in ((y in ([1..2])))": "x y 1 2 span:2:[] some:1 in:2 is:1 some:1 in:2", "[x in ([1..2])]": "x 1 2 span:2:[] some:1 in:2 list:1",
	} {
		want := nodesOf(t, short)
		got, e := Parse(s)
		if (e == api.OK) != (short != "") || !slices.Equal(got, want) {
			t.Errorf("Parse(%q): %v %v, want %v", s, got, e, want)
		}
		hold(t, s)
	}
}

// P10.2: the chapter's examples of Tests, and texts like them.
func TestTestsExamples(t *testing.T) {
	for s, short := range map[string]string{
		"-": "any", " -\n": "any", "\"-\"": "\"-\" is:1 some:1", "\"<\"": "\"<\" is:1 some:1", "[1, \"..\", 2]": "1 \"..\" 2 list:3 is:1 some:1", "-1": "1 neg:1 is:1 some:1", "- 1": "1 neg:1 is:1 some:1", "-a, -": "", "--1": "1 neg:1 neg:1 is:1 some:1", "not(1)": "1 is:1 some:1 not:1", "not (1, < 2)": "1 is:1 2 below:1 some:2 not:1", "(1)": "1 is:1 some:1", "[1, 2]": "1 2 list:2 is:1 some:1",
		"[1..2],>5": "1 2 span:2:[] 5 above:1 some:2", "(1..2]": "1 2 span:2:(] some:1", "[1..2)": "1 2 span:2:[) some:1", "(1..2)": "1 2 span:2:() some:1", "<1,<=2,>3,>=4,5": "1 below:1 2 atmost:1 3 above:1 4 atleast:1 5 is:1 some:5",
		"not( (1) )": "1 is:1 some:1 not:1", "not([1..2))": "1 2 span:2:[) some:1 not:1", "(a and b)": "a b and:2 is:1 some:1", "(a + 1) * 2": "a 1 +:2 2 *:2 is:1 some:1", "[a + 1..(b)]": "a 1 +:2 b span:2:[] some:1", "[[1]..[2]]": "1 list:1 2 list:1 span:2:[] some:1",
		"[f([1, 2])..{a: 1}.a)": "1 2 list:2 call:1:f 1 entry:1:a ctx:1 path:1:a span:2:[) some:1", "((1..2))": "", "[[1..2]]": "", "[(a)]": "a list:1 is:1 some:1", "[x in ([1..2])]": "x 1 2 span:2:[] some:1 in:2 list:1 is:1 some:1", "[x in ([1..2])..3]": "",
		"((x in ([1..2]))..3]": "x 1 2 span:2:[] some:1 in:2 3 span:2:(] some:1", "[\"..\"]": "\"..\" list:1 is:1 some:1", "[1.5..2.5]": "1.5 2.5 span:2:[] some:1", "[1 ..2]": "1 2 span:2:[] some:1", "< -1": "1 neg:1 below:1 some:1", "< (a < b)": "a b <:2 below:1 some:1", "null": "null is:1 some:1",
		"(1), [2..3], {}": "1 is:1 2 3 span:2:[] ctx:0 is:1 some:3", "(1) + (2), (3..4)": "1 2 +:2 is:1 3 4 span:2:() some:2",
	} {
		want := nodesOf(t, short)
		got, e := Tests(s)
		if (e == api.OK) != (short != "") || !slices.Equal(got, want) {
			t.Errorf("Tests(%q): %v %v, want %v", s, got, e, want)
		}
		hold(t, s)
	}
}

// P10.2: what is neither an expression nor tests.
func TestReadWrong(t *testing.T) {
	for _, s := range []string{
		"", " ", "a b", "a = b = c", "a < b < c", "a between 1 and 2 between 3 and 4", "1 between 2", "a between 1", "a between 1 or 2", "a between (1 and 2)", "a in 1", "a in", "a in ()", "a in (1,)", "a in (,1)", "a in (1", "a in 1)", "a in (-, 1)", "a in (-)", "a in (not(1))", "a in (1 = 2)", "a in (1 and 2)", "a in (1) in (2)", "a in (1..2)", "a in [1..2]", "a in [1, 2]", "a = b in (c)",
		"f(1,)", "f(,)", "f(,1)", "f(1 2)", "f(", "f(1", "f)", "f(1,2,3,4,5,6,7,8,9)", "f(1,2,3,4,5,6,7,8,9,10)", "g(f(1,2,3,4,5,6,7,8,9))", "1(2)", "f()()", "(f)(1)", "\"f\"(1)", "if(1)", "null()", "a.b(1)",
		"{a: 1, a: 2}", "{a: 1, b: 2, a: 3}", "{b: {a: 1, a: 2}}", "{a: 1,}", "{a 1}", "{a:}", "{:1}", "{a}", "{1: 2}", "{\"a\": 1}", "{if: 1}", "{a: 1 b: 2}", "{a: 1", "{", "}", "{,}", "a: 1", "{a: 1]", "{(a): 1}", "{a.b: 1}",
		"not a", "not", "not 1", "- ,", "-)", "a.1", "a.", "a.if", "a..b", ".a", "a.\"b\"", "a.(b)", "1 .5.", "+1", "*", "a +", "a + + b", "a * / b", "a * if b then c else d", "-if a then b else c", "a or", "or a", "and", "a and or b", "a + not b",
		"if", "if a", "if a then", "if a then b", "if a then b else", "if a b else c", "a then b else c", "if a else b then c", "if a then b else c else d", "(", ")", "()", "(a", "a)", "(a))", "((a)", "(a, b)", "[", "]", "[1,]", "[,]", "[1 2]", "[1)", "(1]", "{)", "[1", "[(1])", "a [1]", "1 2", "\"a\" \"b\"", "a \"b\"", "a null", "true false", ":", ",", "..", "a, b)", "=", "a =", "a = , b",
		"a \"=\" b", "a \"<\" b", "a \">=\" b", "a \"+\" b", "a \"*\" b", "a \".\" b", "\"-\" a", "a \"and\" b", "a \"or\" b", "\"if\" a then b else c", "if a \"then\" b else c", "a \"between\" b and c", "a \"in\" (b)", "\"(\" a )", "(a \")\"", "[a \"]\"", "\"{\" a: 1 }", "{a \":\" 1}", "f(1 \",\" 2)", "f \"(\" 1 )", "a in (\"<\" 1)", "a in ([1 \"..\" 2])", "a in ([1..2\"]\")",
		"then", "else", "between", "in", "a in (< )", "a in (< 1 < 2)", "a in ([1..])", "a in ([..1])", "a in ([1..2..3])", "a in ([1...2])", "a in ({1..2})", "a in ({1..2]", "a in ([1..2})", "a in ([a = b..c])", "a in ([1..2] + 1)", "a in ([1, 2..3])", "a in ([1..2)", "a in ([1..2]",
	} {
		for _, u := range []string{s, " " + s + "\t"} {
			if got, e := Parse(u); e != api.ErrText || len(got) != 0 {
				t.Errorf("Parse(%q): %v %v", u, got, e)
			}
			hold(t, u)
		}
	}
	for _, s := range []string{"\"<\" 1", "\"not\" (1)", "\"[\" 1..2]", "[1 \"..\" 2]", "1 \",\" 2", "", "a = b", "a and b", "not(1), 2", "not(1) + 1", "1, not(2)", "not()", "not(-)", "not(1", "not(not(1))", "-, 1", "1, -", "-,", "- -", "- )", "(-)", "1,", ",1", "<", "< 1 < 2", "1 <", "= 1", "!= 1", "in (1)", "if a then b else c", "[1..2] + 1", "-[1..2]", "([1..2])", "[1..2", "[1..2}", "{1..2}", "[1..2..3]", "[a and b..c]", "{a: 1..2}", "[{a: 1..2}]", "[{a: 1) .. 2]", "(1, 2)", "(1..2), ", "f(1..2)", "a < b", "a in (1)", "1 2"} {
		if got, e := Tests(s); e != api.ErrText || len(got) != 0 {
			t.Errorf("Tests(%q): %v %v", s, got, e)
		}
		hold(t, s)
	}
}

// P10.2: the errors, in their order.
func TestReadErrors(t *testing.T) {
	sum := func(n int) string { return "1" + strings.Repeat("+1", n-1) }
	list := func(n int) string { return "[" + strings.Repeat("1,", n-1) + "1]" }
	within := func(open, close string, n int) string {
		return strings.Repeat(open, n) + "1" + strings.Repeat(close, n)
	}
	for _, c := range []struct {
		s          string
		want, also api.Errno // of Parse, of Tests
	}{
		{strings.Repeat(" ", 1001), api.ErrLong, api.ErrLong}, {"\xff", api.ErrForm, api.ErrForm}, {"$", api.ErrText, api.ErrText}, {"0.0000000000000000001", api.ErrOver, api.ErrOver}, {"@\"2023-02-29\"", api.ErrFar, api.ErrFar}, {"1 + 0.0000000000000000001 +", api.ErrOver, api.ErrOver}, {") @\"2023-02-29\"", api.ErrFar, api.ErrFar}, {") \x00", api.ErrForm, api.ErrForm},
		{list(299), api.OK, api.ErrLong}, {list(300), api.ErrLong, api.ErrLong}, {list(297), api.OK, api.OK}, {list(298), api.OK, api.ErrLong}, {list(300) + ")", api.ErrText, api.ErrText}, {list(300) + "{a:1,a:2}", api.ErrText, api.ErrText}, {"[" + list(300) + ",{a:1,a:2}]", api.ErrText, api.ErrText}, {"[" + strings.Repeat("1,", 300) + "f(1,2,3,4,5,6,7,8,9)]", api.ErrText, api.ErrText},
		{within("-", "", 39), api.OK, api.ErrDeep}, {within("-", "", 40), api.ErrDeep, api.ErrDeep}, {within("-", "", 37), api.OK, api.OK}, {within("-", "", 38), api.OK, api.ErrDeep}, {within("-", "", 299), api.ErrDeep, api.ErrLong}, {within("-", "", 300), api.ErrLong, api.ErrLong}, {within("-", "", 999), api.ErrLong, api.ErrLong}, {strings.Repeat("-", 1000), api.ErrText, api.ErrText},
		{within("(", ")", 499), api.OK, api.OK}, {within("(", ")", 499) + ")", api.ErrText, api.ErrText}, {within("[", "]", 39), api.OK, api.ErrDeep}, {within("[", "]", 40), api.ErrDeep, api.ErrDeep}, {within("{a:", "}", 19), api.OK, api.ErrDeep}, {within("{a:", "}", 20), api.ErrDeep, api.ErrDeep}, {within("f(", ")", 40), api.ErrDeep, api.ErrDeep}, {"a" + strings.Repeat(".b", 39), api.OK, api.ErrDeep}, {"a" + strings.Repeat(".b", 40), api.ErrDeep, api.ErrDeep},
		{sum(40), api.OK, api.ErrDeep}, {sum(41), api.ErrDeep, api.ErrDeep}, {sum(150), api.ErrDeep, api.ErrLong}, {sum(151), api.ErrLong, api.ErrLong}, {within("1 in (", ")", 13), api.ErrText, api.ErrText}, {within("1 in ((", "))", 14), api.ErrDeep, api.ErrText}, {within("1 in ((", "))", 13), api.OK, api.ErrText}, {strings.Repeat("(", 1000), api.ErrText, api.ErrText}, {strings.Repeat("[", 1000), api.ErrText, api.ErrText}, {strings.Repeat("{a:", 333), api.ErrText, api.ErrText}, {strings.Repeat("if ", 333), api.ErrText, api.ErrText}, {within("if 1 then 1 else ", "", 39), api.OK, api.ErrText}, {within("if 1 then 1 else ", "", 40), api.ErrDeep, api.ErrText},
		{"\"" + strings.Repeat("x", 998) + "\"", api.OK, api.OK}, {strings.Repeat("a", 64), api.OK, api.OK}, {strings.Repeat("a", 65), api.ErrText, api.ErrText}, {"f(" + sum(41) + ",2,3,4,5,6,7,8,9)", api.ErrText, api.ErrText}, {"{a:" + sum(41) + ",a:1}", api.ErrText, api.ErrText},
	} {
		_, e := Parse(c.s)
		_, f := Tests(c.s)
		if e != c.want || f != c.also {
			t.Errorf("%.100q: %v %v, want %v %v", c.s, e, f, c.want, c.also)
		}
	}
}

// P10.2: each short row of the tokens that matter to a rule.
func TestReadWords(t *testing.T) {
	count := map[api.Errno]int{}
	check := func(ahead, behind string) func(s string) {
		return func(s string) {
			e, f := hold(t, ahead+s+behind)
			count[e]++
			count[f]++
		}
	}
	words([]string{"a", "1", "-", "+", "*", "(", ")", "."}, 4, check("", ""))
	words([]string{"a", "-", "=", "<", "and", "or", "between", "in", "("}, 4, check("", ""))
	words([]string{"a", "and", "1", "+", "or"}, 5, check("a between", ""))
	words([]string{"1", "..", "[", "]", "(", ")", ","}, 5, check("", ""))
	words([]string{"1", "..", "[", ")", "{", "}", ","}, 4, check("x in (", ")"))
	words([]string{"1", ",", "<=", ">", "-", "not"}, 4, check("", ""))
	words([]string{"1", ",", "<", "(", ")", "-"}, 4, check("not (", ")"))
	words([]string{"if", "then", "else", "a"}, 6, check("", ""))
	words([]string{"if", "then", "else", "a", "+"}, 4, check("if a then", "else b"))
	words([]string{"f", "(", ")", ",", "1", "."}, 4, check("f (", ")"))
	words([]string{"a", ":", ",", "b", "1", "}"}, 5, check("{ a : 1", "}"))
	words([]string{"a", ":", ",", "{", "}", "1"}, 5, check("{", ""))
	words([]string{"null", "true", "false", "\"s\"", "@\"2024-02-29\"", "and", ".", "a"}, 3, check("", ""))
	words([]string{"<", "<=", ">", ">=", "=", "!=", "1"}, 4, check("", ""))
	words([]string{"[", "]", "1", ","}, 6, check("", ""))
	words([]string{"+ b", "- b", "* -b", "/ b", ".c", "and b", "or b", "= b", "in (b)", "between b and c"}, 3, check("a", ""))
	words([]string{"1", "(1)", "[1]", "[1..2)", "(1..2]", "< 1", ", ", "+ 1"}, 3, check("", ""))
	words([]string{"{", "}", "a:", "b:", "1", ",", "f("}, 4, check("", ""))
	words([]string{"(", ")", "-", "a", "+", ".b"}, 4, check("(a", ")"))
	// Without enough of each, the words would tell little.
	if count[api.OK] < 1200 || count[api.ErrText] < 50000 {
		t.Error("what the words come to", count)
	}
}

// P10.2: sentences of the grammar, and the same ones with a token more, less or changed.
func TestReadSentences(t *testing.T) {
	count := map[api.Errno]int{}
	s := &source{state: 10}
	tokens := []string{"a", "1", "(", ")", "[", "]", "{", "}", ",", "..", ".", ":", "-", "+", "*", "<", "=", "if", "then", "else", "and", "or", "in", "between", "not", "null"}
	for i := range 9000 {
		rule := []string{"expr", "tests"}[i%2]
		text := s.sentence(rules[rule], 3+s.below(12))
		if len(text) > 150 {
			continue
		}
		e, f := hold(t, text)
		if i%2 == 0 && e == api.ErrText || i%2 == 1 && f == api.ErrText {
			if !strings.Contains(text, "{") && !strings.Contains(text, ",") {
				t.Errorf("%q: %v %v", text, e, f)
			}
		}
		count[e]++
		count[f]++
		fields := strings.Fields(text)
		if len(fields) == 0 {
			continue
		}
		at := s.below(len(fields))
		more := s.pick(tokens...)
		hold(t, strings.Join(slices.Concat(fields[:at], fields[at+1:]), " "))
		hold(t, strings.Join(slices.Concat(fields[:at], []string{more}, fields[at:]), " "))
		hold(t, strings.Join(slices.Concat(fields[:at], []string{more}, fields[at+1:]), " "))
		hold(t, strings.ReplaceAll(text, " ", ""))
	}
	// Without enough of each, the sentences would tell little.
	if count[api.OK] < 4000 || count[api.ErrText] < 1000 {
		t.Error("what the sentences come to", count)
	}
}

// P10.3: no later call changes an earlier result, nor does a change to one change another.
func TestReadNewMemory(t *testing.T) {
	for i, read := range []func(string) ([]api.Node, api.Errno){Parse, Tests} {
		text := []string{"if a in (1, [2..3)) then {b: [c, \"d\"]} else -f(2)", "1, [2..3), > a.b"}[i]
		want, _ := wantParse(t, text, i == 1)
		first, _ := read(text)
		second, _ := read(text)
		first = append(first, api.Node{}, api.Node{})
		for k := range first[:cap(first)] {
			first[:cap(first)][k] = api.Node{Op: api.OName, Text: "other"}
		}
		third, _ := read(text)
		if !slices.Equal(second, want) || !slices.Equal(third, want) {
			t.Error(second, third)
		}
	}
}
