package unary

import (
	"cmp"
	"fmt"
	"math/big"
	"reflect"
	"slices"
	"strings"
	"testing"

	"tariff/api"
	"tariff/dec"
	"tariff/expr"
	"tariff/value"
)

// What the chapter says, worked out from the last node backwards, with the library's numbers and
// with false, null and true as -1, 0 and 1.

// literalAt is the value of the node at a place, if it is a literal.
func literalAt(nodes []api.Node, at int) (api.Value, bool) {
	n := nodes[at]
	switch n.Op {
	case api.OTrue:
		return api.Value{Kind: api.Bool, Yes: true}, true
	case api.OFalse:
		return api.Value{Kind: api.Bool}, true
	case api.ONum:
		return api.Value{Kind: api.Num, Num: n.Num}, true
	case api.OText:
		return api.Value{Kind: api.Text, Text: n.Text}, true
	case api.ODate:
		return api.Value{Kind: api.Date, Day: n.Day}, true
	case api.ONeg:
		kids, _ := expr.Parts(nodes, at)
		if inner := nodes[kids[0]]; inner.Op == api.ONum {
			d := inner.Num
			d.Neg = d.Coef != api.Wide{}
			return api.Value{Kind: api.Num, Num: d}, true
		}
	}
	return api.Value{}, false
}

// testsOf is the places of the tests of a whole.
func testsOf(nodes []api.Node) []int {
	at := len(nodes) - 1
	if nodes[at].Op == api.OAny {
		return nil
	}
	kids, _ := expr.Parts(nodes, at)
	if nodes[at].Op == api.ONot {
		kids, _ = expr.Parts(nodes, kids[0])
	}
	return kids
}

// wantEnds is the literals of all tests; false if one is not a literal.
func wantEnds(nodes []api.Node) ([]api.Value, bool) {
	var list []api.Value
	for _, k := range testsOf(nodes) {
		kids, _ := expr.Parts(nodes, k)
		for _, p := range kids {
			v, ok := literalAt(nodes, p)
			if !ok {
				return nil, false
			}
			list = append(list, v)
		}
	}
	return list, true
}

// ratio is a decimal as a fraction.
func ratio(d api.Dec) *big.Rat {
	top := new(big.Int).Lsh(new(big.Int).SetUint64(d.Coef.Hi), 64)
	top.Or(top, new(big.Int).SetUint64(d.Coef.Lo))
	if d.Neg {
		top.Neg(top)
	}
	return new(big.Rat).SetFrac(top, new(big.Int).Exp(big.NewInt(10), big.NewInt(int64(d.Scale)), nil))
}

// side is -1, 0 or 1, if the first is below, equal to or above the second; false if neither has a sense.
func side(a, b api.Value) (int, bool) {
	if a.Kind != b.Kind {
		return 0, false
	}
	switch a.Kind {
	case api.Num:
		return ratio(a.Num).Cmp(ratio(b.Num)), true
	case api.Text:
		return strings.Compare(a.Text, b.Text), true
	case api.Date:
		return cmp.Compare(a.Day, b.Day), true
	}
	return 0, false
}

// level is 1 if something holds, and otherwise -1.
func level(holds bool) int {
	if holds {
		return 1
	}
	return -1
}

// wantTest is the result of the test at a place.
func wantTest(nodes []api.Node, at int, v api.Value) int {
	kids, _ := expr.Parts(nodes, at)
	x, _ := literalAt(nodes, kids[0])
	k, ok := side(v, x)
	switch op := nodes[at].Op; {
	case op == api.OIs && v.Kind == api.Null:
		return -1
	case op == api.OIs && v.Kind == api.Bool && x.Kind == api.Bool:
		return level(v.Yes == x.Yes)
	case !ok && op != api.OSpan:
		return 0
	case op == api.OIs:
		return level(k == 0)
	case op == api.OBelow:
		return level(k < 0)
	case op == api.OAtMost:
		return level(k <= 0)
	case op == api.OAbove:
		return level(k > 0)
	case op == api.OAtLeast:
		return level(k >= 0)
	}
	y, _ := literalAt(nodes, kids[1])
	m, okToo := side(v, y)
	low, high := 0, 0
	if ok {
		low = level(k > 0 || k == 0 && nodes[at].Text[0] == '[')
	}
	if okToo {
		high = level(m < 0 || m == 0 && nodes[at].Text[1] == ']')
	}
	return min(low, high)
}

// wantMatch is the result of a whole.
func wantMatch(nodes []api.Node, v api.Value) int {
	best := -1
	for _, k := range testsOf(nodes) {
		best = max(best, wantTest(nodes, k, v))
	}
	switch nodes[len(nodes)-1].Op {
	case api.OAny:
		return 1
	case api.ONot:
		return -best
	}
	return best
}

// truthOf is the value of a level.
func truthOf(k int) api.Value {
	if k == 0 {
		return api.Value{}
	}
	return api.Value{Kind: api.Bool, Yes: k > 0}
}

// equal tells whether two lists of values are the same.
func equal(a, b []api.Value) bool {
	return len(a) == len(b) && (len(a) == 0 || reflect.DeepEqual(a, b))
}

// hold holds all functions for nodes, and Match for each value, against what is wanted; and tells the
// error that is wanted of Ends.
func hold(t *testing.T, nodes []api.Node, values ...api.Value) api.Errno {
	t.Helper()
	kept := slices.Clone(nodes)
	e := expr.Check(nodes, true)
	var ends, only []api.Value
	plain, listed := false, false
	if e == api.OK {
		ends, plain = wantEnds(nodes)
	}
	f := e
	if e == api.OK && !plain {
		f = api.ErrCannot
	}
	if plain && nodes[len(nodes)-1].Op == api.OSome {
		listed = !slices.ContainsFunc(testsOf(nodes), func(k int) bool { return nodes[k].Op != api.OIs })
	}
	if listed {
		only = ends
	}
	if got, g := Plain(nodes); got != plain || g != e {
		t.Errorf("Plain(%s): %v %v, want %v %v", brief(nodes), got, g, plain, e)
	}
	if got, g := Ends(nodes); !equal(got, ends) || g != f {
		t.Errorf("Ends(%s): %v %v, want %v %v", brief(nodes), got, g, ends, f)
	}
	if got, ok, g := Only(nodes); !equal(got, only) || ok != listed || g != f {
		t.Errorf("Only(%s): %v %v %v, want %v %v %v", brief(nodes), got, ok, g, only, listed, f)
	}
	for _, v := range values {
		holdMatch(t, nodes, v, plain)
	}
	if !slices.Equal(nodes, kept) {
		t.Errorf("%s is changed to %s", brief(kept), brief(nodes))
	}
	return f
}

// holdMatch holds Match against what is wanted.
func holdMatch(t *testing.T, nodes []api.Node, v api.Value, plain bool) {
	t.Helper()
	e := expr.Check(nodes, true)
	if e == api.OK {
		e = value.Check(v)
	}
	if e == api.OK && !plain {
		e = api.ErrCannot
	}
	want := api.Value{}
	if e == api.OK {
		want = truthOf(wantMatch(nodes, v))
	}
	if got, g := Match(nodes, v); !reflect.DeepEqual(got, want) || g != e {
		t.Errorf("Match(%s, %.200s): %v %v, want %v %v", brief(nodes), fmt.Sprint(v), got, g, want, e)
	}
}

// brief is the beginning of what nodes look like.
func brief(nodes []api.Node) string {
	return fmt.Sprintf("%.300s", fmt.Sprint(nodes))
}

// nodesOf is the nodes of unary tests.
func nodesOf(t *testing.T, s string) []api.Node {
	t.Helper()
	nodes, e := expr.Tests(s)
	if e != api.OK {
		t.Fatalf("%q: %v", s, e)
	}
	return nodes
}

// valuesOf is the values of some texts.
func valuesOf(t *testing.T, texts ...string) []api.Value {
	t.Helper()
	var list []api.Value
	for _, s := range texts {
		v, e := value.Read(s)
		if e != api.OK {
			t.Fatalf("%q: %v", s, e)
		}
		list = append(list, v)
	}
	return list
}

// source makes numbers, the same ones in every test run.
type source struct{ state uint64 }

func (s *source) below(n int) int {
	s.state = s.state*6364136223846793005 + 1442695040888963407
	x := s.state
	x ^= x >> 33
	x *= 0xff51afd7ed558ccd
	return int((x ^ x>>29) >> 1 % uint64(n))
}

// pick is one of the texts.
func (s *source) pick(list ...string) string {
	return list[s.below(len(list))]
}

// operand is a random literal; one in so many is no literal.
func (s *source) operand(others int) string {
	if s.below(others) == 0 {
		return s.pick("x", "null", "1 + 1", "--1", "-x", "[1]", "{}", "f(1)", "1.a", "(1 = 1)", "(true)", "-(1)", "(\"a\")")
	}
	return s.pick("true", "false", "0", "1", "2", "3", "5", "2.5", "-0", "-1", "-2.5", "9999999999999999999999999999999999", "-9999999999999999999999999999999999", "0.000000000000000001", `"a"`, `"b"`, `"ab"`, `""`, `"é"`, `@"2024-02-29"`, `@"0001-01-01"`, `@"9999-12-31"`)
}

// test is a random test.
func (s *source) test(others int) string {
	if s.below(3) == 0 {
		return s.pick("[", "(") + s.operand(others) + ".." + s.operand(others) + s.pick("]", ")")
	}
	return s.pick("", "", "< ", "<= ", "> ", ">= ") + s.operand(others)
}

// tests is random unary tests.
func (s *source) tests(others int) string {
	list := []string{s.test(others)}
	for s.below(2) == 0 {
		list = append(list, s.test(others))
	}
	all := strings.Join(list, ", ")
	if s.below(3) == 0 {
		return "not(" + all + ")"
	}
	return all
}

// num is a decimal.
func num(t *testing.T, s string) api.Dec {
	t.Helper()
	d, e := dec.Parse(s)
	if e != api.OK {
		t.Fatal(s, e)
	}
	return d
}
