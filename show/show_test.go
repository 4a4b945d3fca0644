package show

import (
	"slices"
	"strings"
	"testing"

	"tariff/api"
	"tariff/expr"
)

// P11.1: the chapter's examples, and one of each node.
func TestCanonExamples(t *testing.T) {
	for s, want := range map[string]string{
		"(a+b)*(c)": "(a + b) * c", "a-(b-c)": "a - (b - c)", "(a-b)-c": "a - b - c", "- ( -1 )": "--1", "(a or b) and c": "(a or b) and c", "(a = b) = c": "(a = b) = c",
		"(if a then b else c)+1": "(if a then b else c) + 1", "if (a) then (b) else c": "if a then b else c", "(a+b).c": "(a + b).c", "(f(x)).c": "f(x).c", "1.50": "1.5",
		"a or(b or c)": "a or (b or c)", "(a or b)or c": "a or b or c", "(a and b)or c": "a and b or c", "a and(b and c)": "a and (b and c)", "(a=b)and(c<d)": "a = b and c < d", "a=(b and c)": "a = (b and c)", "a<(b<=c)": "a < (b <= c)", "(a!=b)>(c>=d)": "(a != b) > (c >= d)", "(a+b)=(c-d)": "a + b = c - d",
		"(a*b)+(c/d)": "a * b + c / d", "a*(b*c)": "a * (b * c)", "(a/b)/c": "a / b / c", "a/(b/c)": "a / (b / c)", "a+(b*c)": "a + b * c", "(-a)*(-b)": "-a * -b", "-(a*b)": "-(a * b)", "-(a.b)": "-a.b", "(-a).b": "(-a).b", "-(if a then b else c)": "-(if a then b else c)",
		"(a between b and c)and d": "a between b and c and d", "a between(b and c)and d": "a between (b and c) and d", "(a between b and c)between d and e": "(a between b and c) between d and e", "a between b and(c in(d))": "a between b and (c in (d))", "(a+1)between(b-1)and(c*2)": "a + 1 between b - 1 and c * 2",
		"(a)in( (1),[2..3) ,>5)": "a in (1, [2..3), > 5)", "(a in (1)) in (2)": "(a in (1)) in (2)", "a in ((b in (c)))": "a in ((b in (c)))", "(a+b)in(c+d)": "a + b in (c + d)", "(a or b)in((c or d))": "(a or b) in ((c or d))",
		"if(if a then b else c)then(if d then e else f)else(if g then h else i)": "if if a then b else c then if d then e else f else if g then h else i", "f( )": "f()", "f((a or b),(if a then b else c))": "f(a or b, if a then b else c)", "[ ]": "[]", "[(a or b),1]": "[a or b, 1]", "{ }": "{}", "{a:(b),c:(if a then b else c)}": "{a: b, c: if a then b else c}",
		"((a.b)).c": "a.b.c", "(1).a": "1.a", "(1.5).a": "1.5.a", "\"a\".b": "\"a\".b", "[a].b": "[a].b", "({a:1}).a": "{a: 1}.a", "null.a": "null.a", "(@\"2024-02-29\").a": "@\"2024-02-29\".a", "\"\\\"\\\\\\n\\r\\t/\"": "\"\\\"\\\\\\n\\r\\t/\"", "true": "true", "(false)": "false", "0.00": "0", " a ": "a", "a\n+\tb": "a + b",
	} {
		if got, e := Canon(s, false); got != want || e != api.OK {
			t.Errorf("Canon(%q): %q %v, want %q", s, got, e, want)
		}
		nodes, _ := expr.Parse(s)
		if got := hold(t, nodes); got != want {
			t.Errorf("Print of %q: %q", s, got)
		}
	}
	for s, want := range map[string]string{
		"[1..2],>5": "[1..2], > 5", "not( (1) )": "not(1)", "(a and b)": "(a and b)", "-": "-", " - ": "-", "- 1": "-1", "1,(2)": "1, 2", "<(1)": "< 1", "<=1+2": "<= 1 + 2", ">(a or b)": "> (a or b)", ">=-1": ">= -1", "(a=b),<(a=b)": "(a = b), < (a = b)", "(1 .. 2)": "(1..2)", "[(a)..(b))": "[a..b)", "((a and b)..(c or d)]": "((a and b)..(c or d)]",
		"not([1..2],-)": "", "not( [ 1..2 ] , < 3)": "not([1..2], < 3)", "([1,2])": "[1, 2]", "((1))+((2))": "1 + 2", "(if a then b else c)": "(if a then b else c)", "[a.b..1.5]": "[a.b..1.5]", "(1)": "1",
	} {
		got, e := Canon(s, true)
		if got != want || (e == api.OK) != (want != "") {
			t.Errorf("Canon(%q): %q %v, want %q", s, got, e, want)
		}
		nodes, _ := expr.Tests(s)
		hold(t, nodes)
	}
}

// P11.1: the errors, in their order.
func TestErrors(t *testing.T) {
	for _, c := range []struct {
		s          string
		want, also api.Errno // of an expression, of tests
	}{
		{"a and b", api.OK, api.ErrText}, {"[1..2]", api.ErrText, api.OK}, {"-", api.ErrText, api.OK}, {"", api.ErrText, api.ErrText}, {"a b", api.ErrText, api.ErrText}, {"$", api.ErrText, api.ErrText}, {"\xff", api.ErrForm, api.ErrForm}, {strings.Repeat(" ", 1001), api.ErrLong, api.ErrLong}, {"0.0000000000000000001", api.ErrOver, api.ErrOver}, {"@\"2023-02-29\"", api.ErrFar, api.ErrFar},
		{strings.Repeat("-", 40) + "1", api.ErrDeep, api.ErrDeep}, {strings.Repeat("-", 38) + "1", api.OK, api.ErrDeep}, {"[" + strings.Repeat("1,", 299) + "1]", api.ErrLong, api.ErrLong}, {"[" + strings.Repeat("abc,", 249) + "a]", api.ErrLong, api.ErrLong},
		{"\"" + strings.Repeat("é", 499) + "\"", api.OK, api.OK}, {"[" + strings.Repeat("abcd,", 166) + "a]", api.OK, api.OK}, {"[" + strings.Repeat("abcd,", 166) + "ab]", api.OK, api.OK}, {"[" + strings.Repeat("abcd,", 166) + "abc]", api.ErrLong, api.ErrLong}, {"[" + strings.Repeat("abcd,", 166) + "(abc)]", api.ErrLong, api.ErrLong},
	} {
		got, e := Canon(c.s, false)
		also, f := Canon(c.s, true)
		if e != c.want || f != c.also || e != api.OK && got != "" || f != api.OK && also != "" {
			t.Errorf("Canon(%.100q): %v %v, want %v %v", c.s, e, f, c.want, c.also)
		}
	}
	text := func(s string) api.Node { return api.Node{Op: api.OText, Text: s} }
	for i, c := range []struct {
		nodes      []api.Node
		want, also api.Errno
	}{
		{nil, api.ErrForm, api.ErrForm}, {[]api.Node{{Op: api.ONull}, {Op: api.ONull}}, api.ErrForm, api.ErrForm}, {make([]api.Node, 301), api.ErrLong, api.ErrLong}, {make([]api.Node, 300), api.ErrForm, api.ErrForm}, {[]api.Node{{Op: api.OAny}}, api.ErrForm, api.OK}, {[]api.Node{{Op: api.ONull}}, api.OK, api.ErrForm},
		{[]api.Node{text(strings.Repeat("a", 998))}, api.OK, api.ErrForm}, {[]api.Node{text(strings.Repeat("a", 999))}, api.ErrLong, api.ErrForm}, {[]api.Node{text(strings.Repeat("\n", 499))}, api.OK, api.ErrForm}, {[]api.Node{text(strings.Repeat("\n", 500))}, api.ErrLong, api.ErrForm}, {[]api.Node{text(strings.Repeat("a", 1001))}, api.ErrForm, api.ErrForm},
		{[]api.Node{text(strings.Repeat("a", 997)), {Op: api.ONeg, Kids: 1}}, api.OK, api.ErrForm}, {[]api.Node{text(strings.Repeat("a", 998)), {Op: api.ONeg, Kids: 1}}, api.ErrLong, api.ErrForm}, {[]api.Node{text(strings.Repeat("a", 999)), {Op: api.ONeg, Kids: 2}}, api.ErrForm, api.ErrForm}, {append([]api.Node{text(strings.Repeat("a", 999))}, slices.Repeat([]api.Node{{Op: api.ONeg, Kids: 1}}, 40)...), api.ErrDeep, api.ErrForm}, {append(slices.Repeat([]api.Node{text(strings.Repeat("\"", 1000))}, 299), api.Node{Op: api.OList, Kids: 299}), api.ErrLong, api.ErrForm},
		{[]api.Node{text(strings.Repeat("a", 998)), {Op: api.OIs, Kids: 1}, {Op: api.OSome, Kids: 1}}, api.ErrForm, api.OK}, {[]api.Node{text(strings.Repeat("a", 999)), {Op: api.OIs, Kids: 1}, {Op: api.OSome, Kids: 1}}, api.ErrForm, api.ErrLong}, {[]api.Node{text(strings.Repeat("a", 998)), {Op: api.OIs, Kids: 1}, {Op: api.OSome, Kids: 1}, {Op: api.ONot, Kids: 1}}, api.ErrForm, api.ErrLong}, {[]api.Node{text("\xff")}, api.ErrForm, api.ErrForm},
	} {
		_, e := Print(c.nodes, false)
		_, f := Print(c.nodes, true)
		if e != c.want || f != c.also {
			t.Errorf("Print, case %d: %v %v, want %v %v", i, e, f, c.want, c.also)
		}
		hold(t, c.nodes)
	}
}

// around is each operation with one expression as each of its parts, the others being names.
func around(inner []api.Node) [][]api.Node {
	a, b := []api.Node{{Op: api.OName, Text: "x"}}, []api.Node{{Op: api.OName, Text: "y"}}
	var list [][]api.Node
	put := func(parts ...any) {
		var nodes []api.Node
		for _, p := range parts {
			switch p := p.(type) {
			case []api.Node:
				nodes = append(nodes, p...)
			case api.Node:
				nodes = append(nodes, p)
			}
		}
		list = append(list, nodes)
	}
	some, in := api.Node{Op: api.OSome, Kids: 1}, api.Node{Op: api.OIn, Kids: 2}
	for op := api.OAdd; op <= api.OOr; op++ {
		put(inner, a, api.Node{Op: op, Kids: 2})
		put(a, inner, api.Node{Op: op, Kids: 2})
	}
	for _, op := range []int{api.OIf, api.OBetween} {
		put(inner, a, b, api.Node{Op: op, Kids: 3})
		put(a, inner, b, api.Node{Op: op, Kids: 3})
		put(a, b, inner, api.Node{Op: op, Kids: 3})
	}
	for op := api.OIs; op <= api.OAtLeast; op++ {
		put(a, inner, api.Node{Op: op, Kids: 1}, some, in)
	}
	for _, pair := range []string{"[]", "[)", "(]", "()"} {
		put(a, inner, b, api.Node{Op: api.OSpan, Kids: 2, Text: pair}, some, in)
		put(a, b, inner, api.Node{Op: api.OSpan, Kids: 2, Text: pair}, some, in)
	}
	put(inner, a, api.Node{Op: api.OIs, Kids: 1}, some, in)
	put(inner, api.Node{Op: api.ONeg, Kids: 1})
	put(inner, api.Node{Op: api.OPath, Kids: 1, Text: "p"})
	put(inner, api.Node{Op: api.OCall, Kids: 1, Text: "f"})
	put(a, inner, api.Node{Op: api.OCall, Kids: 2, Text: "f"})
	put(inner, api.Node{Op: api.OList, Kids: 1})
	put(inner, a, api.Node{Op: api.OList, Kids: 2})
	put(inner, api.Node{Op: api.OEntry, Kids: 1, Text: "e"}, api.Node{Op: api.OCtx, Kids: 1})
	return list
}

// P11.1, P11.2: each operation as each part of each other, and those of each other again.
func TestPrintWithin(t *testing.T) {
	leaves := [][]api.Node{{{Op: api.OName, Text: "a"}}, {{Op: api.ONull}}, {{Op: api.OTrue}}, {{Op: api.OFalse}}, {{Op: api.ODate, Day: 1}}, {{Op: api.OText, Text: ".."}}, {{Op: api.ONum}}, {{Op: api.OList}}, {{Op: api.OCtx}}, {{Op: api.OCall, Text: "f"}}}
	count := 0
	for i, leaf := range leaves {
		for _, one := range around(leaf) {
			holdFewest(t, hold(t, one), one, false)
			if i > 0 {
				continue
			}
			for _, two := range around(one) {
				holdFewest(t, hold(t, two), two, false)
				for k, three := range around(two) {
					if (count+k)%11 == 0 {
						holdFewest(t, hold(t, three), three, false)
					}
				}
				count++
			}
		}
	}
	if count < 2000 {
		t.Error(count)
	}
}

// P11.1, P11.2: random expressions and tests.
func TestPrintRandom(t *testing.T) {
	s := &source{state: 11}
	count, long := 0, 0
	for i := range 20000 {
		nodes := s.expression(1 + s.below(8+i%2*2))
		tests := i%3 == 0
		if tests {
			nodes = s.some(1 + s.below(5))
			if s.below(2) == 0 {
				nodes = append(nodes, api.Node{Op: api.ONot, Kids: 1})
			}
		}
		if text := hold(t, nodes); text != "" {
			holdFewest(t, text, nodes, tests)
			count++
		} else {
			long++
		}
	}
	if count < 15000 || long < 10 {
		t.Error(count, long)
	}
}

// P11.1, P11.2: Canon of texts with blanks and parentheses that are not needed.
func TestCanonRandom(t *testing.T) {
	s := &source{state: 12}
	for range 10000 {
		nodes := s.expression(1 + s.below(5))
		want, e := Print(nodes, false)
		if e != api.OK || len(want) > 400 {
			continue
		}
		loose := loosen(s, nodes, len(nodes)-1)
		if len(loose) > 1000 {
			continue
		}
		if got, e := Canon(loose, false); got != want || e != api.OK {
			t.Errorf("Canon(%q): %q %v, want %q", loose, got, e, want)
		}
	}
}

// loosen is an expression's text with parentheses around each part that may have some, and blanks where they may be.
func loosen(s *source, nodes []api.Node, at int) string {
	var list []string
	kids, _ := expr.Parts(nodes, at)
	for _, k := range kids {
		list = append(list, loosen(s, nodes, k))
	}
	gap := s.pick("", " ", "\n", "\t\r")
	n := nodes[at]
	text := ""
	switch {
	case len(kids) == 0 && n.Op != api.OCall:
		text = wantText(nodes, at)
	case n.Op == api.OPath:
		text = list[0] + gap + "." + gap + n.Text
	case n.Op == api.OCall:
		text = n.Text + gap + "(" + gap + strings.Join(list, gap+",") + ")"
	case n.Op == api.OList:
		text = "[" + gap + strings.Join(list, gap+",") + gap + "]"
	case n.Op == api.OCtx:
		return "{" + gap + strings.Join(list, ","+gap) + gap + "}"
	case n.Op == api.OEntry:
		return n.Text + gap + ":" + list[0]
	case n.Op == api.OSome:
		return strings.Join(list, gap+","+gap)
	case n.Op == api.OSpan:
		return n.Text[:1] + gap + list[0] + gap + ".." + gap + list[1] + n.Text[1:]
	case n.Op == api.OIn:
		text = list[0] + "in" + gap + "(" + list[1] + ")"
	default:
		text = places.ReplaceAllStringFunc(strings.ReplaceAll(forms[n.Op], " ", gap), func(p string) string { return list[p[0]-'a'] })
	}
	if n.Op >= api.OIs {
		return text
	}
	return "(" + gap + text + gap + ")"
}

// P11.3: nothing is put into the spare room of an argument.
func TestPrintKeeps(t *testing.T) {
	nodes, _ := expr.Parse("if a in (1, [2..3)) then {b: [c, \"d\"]} else -f(2)")
	nodes = append(nodes, api.Node{Op: api.OName, Text: "behind"}, api.Node{Op: api.OName, Text: "behind"})
	kept := slices.Clone(nodes)
	if s, e := Print(nodes[:len(nodes)-2], false); s != "if a in (1, [2..3)) then {b: [c, \"d\"]} else -f(2)" || e != api.OK || !slices.Equal(nodes, kept) {
		t.Error(s, e, nodes)
	}
}
