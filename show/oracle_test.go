package show

import (
	"fmt"
	"regexp"
	"slices"
	"strconv"
	"strings"
	"testing"

	"tariff/api"
	"tariff/chars"
	"tariff/date"
	"tariff/dec"
	"tariff/expr"
	"tariff/lex"
)

// The chapter's table: what a node is written as, a to c its parts with the levels that they require.
var forms = map[int]string{
	api.ONull: "null", api.OTrue: "true", api.OFalse: "false", api.OOr: "a1 or b2", api.OAnd: "a2 and b3",
	api.OEq: "a4 = b4", api.ONe: "a4 != b4", api.OLt: "a4 < b4", api.OLe: "a4 <= b4", api.OGt: "a4 > b4", api.OGe: "a4 >= b4", api.OBetween: "a4 between b4 and c4", api.OIn: "a4 in (b0)",
	api.OAdd: "a4 + b5", api.OSub: "a4 - b5", api.OMul: "a5 * b6", api.ODiv: "a5 / b6", api.ONeg: "-a6", api.OIf: "if a0 then b0 else c0",
	api.OAny: "-", api.OIs: "a4", api.OBelow: "< a4", api.OAtMost: "<= a4", api.OAbove: "> a4", api.OAtLeast: ">= a4", api.ONot: "not(a0)",
}

// The chapter's levels; those that are not here are 7.
var levels = map[int]int{
	api.OIf: 0, api.OOr: 1, api.OAnd: 2, api.OEq: 3, api.ONe: 3, api.OLt: 3, api.OLe: 3, api.OGt: 3, api.OGe: 3, api.OBetween: 3, api.OIn: 3, api.OAdd: 4, api.OSub: 4, api.OMul: 5, api.ODiv: 5, api.ONeg: 6,
}

var places = regexp.MustCompile(`[abc][0-7]`)

// wantText is the text of the node at a place, whatever its length.
func wantText(nodes []api.Node, at int) string {
	n := nodes[at]
	kids, _ := expr.Parts(nodes, at)
	var list []string // what is separated by commas
	for _, k := range kids {
		list = append(list, wantText(nodes, k))
	}
	part := func(i, required int) string {
		own, ok := levels[nodes[kids[i]].Op]
		if ok && own < required {
			return "(" + list[i] + ")"
		}
		return list[i]
	}
	switch n.Op {
	case api.ONum:
		text, _ := dec.Print(n.Num)
		return text
	case api.OText:
		text, _ := chars.Quote(n.Text)
		return text
	case api.ODate:
		text, _ := date.Print(n.Day)
		return "@\"" + text + "\""
	case api.OName:
		return n.Text
	case api.OPath:
		return part(0, 7) + "." + n.Text
	case api.OCall:
		return n.Text + "(" + strings.Join(list, ", ") + ")"
	case api.OList:
		return "[" + strings.Join(list, ", ") + "]"
	case api.OCtx:
		return "{" + strings.Join(list, ", ") + "}"
	case api.OEntry:
		return n.Text + ": " + list[0]
	case api.OSome:
		return strings.Join(list, ", ")
	case api.OSpan:
		return string(n.Text[0]) + part(0, 4) + ".." + part(1, 4) + string(n.Text[1])
	}
	return places.ReplaceAllStringFunc(forms[n.Op], func(p string) string {
		return part(int(p[0]-'a'), int(p[1]-'0'))
	})
}

// wantPrint is Print.
func wantPrint(nodes []api.Node, tests bool) (string, api.Errno) {
	if e := expr.Check(nodes, tests); e != api.OK {
		return "", e
	}
	text := wantText(nodes, len(nodes)-1)
	if len(text) > 1000 {
		return "", api.ErrLong
	}
	return text, api.OK
}

// read is expr.Parse, or (tests) expr.Tests.
func read(s string, tests bool) ([]api.Node, api.Errno) {
	if tests {
		return expr.Tests(s)
	}
	return expr.Parse(s)
}

// hold holds Print against what is wanted, for both kinds of nodes, and tells the text that it has.
func hold(t *testing.T, nodes []api.Node) string {
	t.Helper()
	kept := slices.Clone(nodes)
	text := ""
	for _, tests := range []bool{false, true} {
		want, wantErr := wantPrint(nodes, tests)
		got, e := Print(nodes, tests)
		if got != want || e != wantErr {
			t.Errorf("Print(%s, %v): %.300q %v, want %.300q %v", brief(nodes), tests, got, e, want, wantErr)
		}
		if !slices.Equal(nodes, kept) {
			t.Errorf("Print changes %s to %s", brief(kept), brief(nodes))
		}
		if e != api.OK {
			continue
		}
		text = got
		if back, e := read(got, tests); e != api.OK || !slices.Equal(back, nodes) {
			t.Errorf("%q is read as %s %v, wrote %s", got, brief(back), e, brief(nodes))
		}
		if again, e := Canon(got, tests); e != api.OK || again != got {
			t.Errorf("Canon(%q): %q %v", got, again, e)
		}
	}
	return text
}

// holdFewest tells of parentheses that could be left out: without them the text is to mean something else.
func holdFewest(t *testing.T, text string, nodes []api.Node, tests bool) {
	t.Helper()
	tokens, _ := lex.Read(text)
	var open []int
	for _, k := range tokens {
		switch {
		case k.Kind != api.TSign || !strings.Contains("()[]{}", k.Text):
		case strings.Contains("([{", k.Text):
			open = append(open, k.At)
		default:
			from := open[len(open)-1]
			open = open[:len(open)-1]
			if text[from] != '(' || text[k.At] != ')' { // brackets of an interval may be of two kinds
				continue
			}
			without := text[:from] + " " + text[from+1:k.At] + " " + text[k.At+1:]
			if back, e := read(without, tests); e == api.OK && slices.Equal(back, nodes) {
				t.Errorf("%q is read as %q", without, text)
			}
		}
	}
}

// brief is the beginning of what nodes look like.
func brief(nodes []api.Node) string {
	return fmt.Sprintf("%.500s", fmt.Sprint(nodes))
}

// source makes numbers, the same ones in every test run.
type source struct{ state uint64 }

func (s *source) below(n int) int {
	s.state = s.state*6364136223846793005 + 1442695040888963407
	x := s.state
	x ^= x >> 33
	x *= 0xff51afd7ed558ccd
	return int((x ^ x>>29) >> 1 % uint64(n))
}

// pick is one of the texts.
func (s *source) pick(list ...string) string {
	return list[s.below(len(list))]
}

// expression is random nodes so deep at most.
func (s *source) expression(deep int) []api.Node {
	if deep <= 1 {
		return s.leaf()
	}
	op := api.ONeg + s.below(api.OCtx-api.ONeg+1)
	switch op {
	case api.ONeg:
		return s.with(deep, 1, api.Node{Op: op})
	case api.OPath:
		return s.with(deep, 1, api.Node{Op: op, Text: s.pick("a", "b")})
	case api.OIf, api.OBetween:
		return s.with(deep, 3, api.Node{Op: op})
	case api.OIn:
		return append(slices.Concat(s.expression(deep-1), s.some(deep-1)), api.Node{Op: op, Kids: 2})
	case api.OCall:
		return s.with(deep, s.below(4), api.Node{Op: op, Text: s.pick("f", "g")})
	case api.OList:
		return s.with(deep, s.below(4), api.Node{Op: op})
	case api.OCtx:
		var nodes []api.Node
		n := s.below(3)
		for i := range n {
			nodes = append(nodes, s.with(deep, 1, api.Node{Op: api.OEntry, Text: "n" + strconv.Itoa(i)})...)
		}
		return append(nodes, api.Node{Op: op, Kids: n})
	}
	return s.with(deep, 2, api.Node{Op: op})
}

// with is a node behind so many random parts.
func (s *source) with(deep, kids int, n api.Node) []api.Node {
	var nodes []api.Node
	for range kids {
		nodes = append(nodes, s.expression(deep-1-s.below(2))...)
	}
	n.Kids = kids
	return append(nodes, n)
}

// leaf is a random node without parts.
func (s *source) leaf() []api.Node {
	tokens, _ := lex.Read(s.pick("1", "0", "2.5", "0.000000000000000001", "a", "b", "price", "\"x\"", "\"\"", "\"(\\\"..\\n\"", "@\"2024-02-29\"", "@\"0001-01-01\""))
	k := tokens[0]
	switch s.below(10) {
	case 0:
		return []api.Node{{Op: api.ONull + s.below(3)}}
	case 1:
		return []api.Node{{Op: api.OList + s.below(2)}}
	}
	return []api.Node{{Op: map[int]int{api.TNum: api.ONum, api.TStr: api.OText, api.TDate: api.ODate, api.TName: api.OName}[k.Kind], Text: k.Text, Num: k.Num, Day: k.Day}}
}

// some is random tests.
func (s *source) some(deep int) []api.Node {
	var nodes []api.Node
	n := 1 + s.below(3)
	for range n {
		op := api.OIs + s.below(api.OSpan-api.OIs+1)
		if op == api.OSpan {
			nodes = append(nodes, s.with(deep, 2, api.Node{Op: op, Text: s.pick("[]", "[)", "(]", "()")})...)
		} else {
			nodes = append(nodes, s.with(deep, 1, api.Node{Op: op})...)
		}
	}
	return append(nodes, api.Node{Op: api.OSome, Kids: n})
}
