package code

import (
	"fmt"
	"slices"
	"strings"
	"testing"

	"tariff/api"
	"tariff/dec"
	"tariff/expr"
)

// What the chapter says, worked out from the whole down to its parts, path by path, and from the
// last instruction backwards.

// The chapter's table of instructions.
var (
	popsNone  = []int{1, 2, 3, 4, 5, 6, 7, 29, 101, 104}
	popsOne   = []int{8, 24, 28, 37, 30, 31, 32, 33, 34, 102, 103}
	popsTwo   = []int{9, 10, 11, 12, 13, 14, 15, 16, 17, 18, 19, 20, 35}
	popsThree = []int{22}
	popsA     = []int{25, 26, 27, 36}
	pushNone  = []int{101, 102, 103, 104}
	asksTests = []int{30, 31, 32, 33, 34, 35, 104}
)

// wantPops is how many values an instruction pops; false if it is not in the table.
func wantPops(ins api.Ins) (int, bool) {
	for n, row := range [][]int{popsNone, popsOne, popsTwo, popsThree} {
		if slices.Contains(row, ins.Op) {
			return n, true
		}
	}
	return ins.A, slices.Contains(popsA, ins.Op)
}

// wantItem is the code of the node at a place, if that code begins at an index.
func wantItem(nodes []api.Node, at, from int) []api.Ins {
	n := nodes[at]
	kids, _ := expr.Parts(nodes, at)
	list := []api.Ins{}
	part := func(i int) { list = append(list, wantItem(nodes, kids[i], from+len(list))...) }
	switch n.Op {
	case api.OIf:
		part(0)
		second := wantItem(nodes, kids[1], from+len(list)+1)
		third := wantItem(nodes, kids[2], from+len(list)+len(second)+2)
		list = append(list, api.Ins{Op: 102, A: from + len(list) + len(second) + 2})
		list = append(list, second...)
		list = append(list, api.Ins{Op: 101, A: from + len(list) + 1 + len(third)})
		return append(list, third...)
	case api.OIn:
		part(0)
		list = append(list, api.Ins{Op: 103})
		part(1)
		return append(list, api.Ins{Op: 104})
	}
	for i := range kids {
		part(i)
	}
	ins := api.Ins{Op: n.Op, Text: n.Text, Num: n.Num, Day: n.Day}
	if slices.Contains(popsA, n.Op) {
		ins.A = len(kids)
	}
	return append(list, ins)
}

// wantCompile is Compile.
func wantCompile(nodes []api.Node, tests bool) ([]api.Ins, api.Errno) {
	if e := expr.Check(nodes, tests); e != api.OK {
		return nil, e
	}
	return wantItem(nodes, len(nodes)-1, 0), api.OK
}

// spot is an index with what the machine holds there.
type spot struct{ at, height, entered int }

// paths is every spot that some path comes to; false if a path goes wrong.
func paths(code []api.Ins, from spot) (map[spot]int, bool) {
	seen := map[spot]int{}
	for work := []spot{from}; len(work) > 0; {
		s := work[len(work)-1]
		work = work[:len(work)-1]
		seen[s]++
		if s.at == len(code) || seen[s] > 1 {
			continue
		}
		ins := code[s.at]
		n, known := wantPops(ins)
		if !known || n > s.height || slices.Contains(asksTests, ins.Op) && s.entered == 0 {
			return nil, false
		}
		next := spot{s.at + 1, s.height - n, s.entered}
		if !slices.Contains(pushNone, ins.Op) {
			next.height++
		}
		if ins.Op == 103 {
			next.entered++
		}
		if ins.Op == 104 {
			next.entered--
		}
		if ins.Op != 101 {
			work = append(work, next)
		}
		if ins.Op == 101 || ins.Op == 102 {
			next.at = ins.A
			work = append(work, next)
		}
	}
	return seen, true
}

// wantArgument tells whether the A of an instruction is one that the chapter allows.
func wantArgument(code []api.Ins, at int) bool {
	ins := code[at]
	switch {
	case ins.Op == 101 || ins.Op == 102:
		return ins.A >= at+1 && ins.A <= len(code)
	case ins.Op == api.OSome:
		return ins.A > 0
	case ins.Op == api.OCall:
		return ins.A >= 0 && ins.A < 9
	case ins.Op == api.OList || ins.Op == api.OCtx:
		return ins.A > -1
	}
	return ins.A == 0
}

// wantVerify is Verify.
func wantVerify(code []api.Ins, tests bool) (int, api.Errno) {
	if len(code) > 600 {
		return 0, api.ErrLong
	}
	for at := range code {
		if !wantArgument(code, at) {
			return 0, api.ErrForm
		}
	}
	from := spot{}
	if tests {
		from.entered = 1
	}
	seen, ok := paths(code, from)
	if !ok {
		return 0, api.ErrForm
	}
	indices := map[int]int{}
	highest := 0
	for s := range seen {
		indices[s.at]++
		highest = max(highest, s.height)
	}
	for at := range len(code) + 1 {
		if indices[at] != 1 {
			return 0, api.ErrForm
		}
	}
	if seen[spot{len(code), 1, from.entered}] == 0 {
		return 0, api.ErrForm
	}
	return highest, api.OK
}

// jumpsTo is where the jumps to an index are.
func jumpsTo(code []api.Ins, end int) []int {
	var list []int
	for at, ins := range code {
		if ins.Op == 101 && ins.A == end && at < end {
			list = append(list, at)
		}
	}
	return list
}

// backFrom is the nodes of the item whose code ends at an index, and where it begins. Of the jumps
// that lead to its end, the first belongs to the outermost of the conditionals that end there.
func backFrom(code []api.Ins, end int, jumps []int) (nodes []api.Node, begin int, ok bool) {
	if end < 1 {
		return nil, 0, false
	}
	whole := api.Node{Op: api.OIf, Kids: 3}
	if len(jumps) > 0 {
		third, at, ok := backFrom(code, end, jumps[1:])
		if !ok || at != jumps[0]+1 || code[jumps[0]] != (api.Ins{Op: 101, A: end}) {
			return nil, 0, false
		}
		second, at, ok := backFrom(code, jumps[0], jumpsTo(code, jumps[0]))
		if !ok || at < 1 || code[at-1] != (api.Ins{Op: 102, A: jumps[0] + 1}) {
			return nil, 0, false
		}
		first, at, ok := backFrom(code, at-1, jumpsTo(code, at-1))
		return append(slices.Concat(first, second, third), whole), at, ok
	}
	last := code[end-1]
	if last == (api.Ins{Op: 104}) {
		tests, at, ok := backFrom(code, end-1, jumpsTo(code, end-1))
		if !ok || at < 1 || code[at-1] != (api.Ins{Op: 103}) {
			return nil, 0, false
		}
		first, at, ok := backFrom(code, at-1, jumpsTo(code, at-1))
		return append(slices.Concat(first, tests), api.Node{Op: api.OIn, Kids: 2}), at, ok
	}
	count, known := wantPops(last)
	if !known || last.Op > 100 || count < 0 || !slices.Contains(popsA, last.Op) && last.A != 0 {
		return nil, 0, false
	}
	begin = end - 1
	for range count {
		part, at, ok := backFrom(code, begin, jumpsTo(code, begin))
		if !ok {
			return nil, 0, false
		}
		nodes, begin = slices.Concat(part, nodes), at
	}
	return append(nodes, api.Node{Op: last.Op, Kids: count, Text: last.Text, Num: last.Num, Day: last.Day}), begin, true
}

// wantBack is Back.
func wantBack(code []api.Ins, tests bool) ([]api.Node, api.Errno) {
	if len(code) > 600 {
		return nil, api.ErrLong
	}
	nodes, begin, ok := backFrom(code, len(code), jumpsTo(code, len(code)))
	if !ok || begin != 0 || expr.Check(nodes, tests) != api.OK {
		return nil, api.ErrForm
	}
	return nodes, api.OK
}

// holdNodes holds all functions for nodes against what is wanted, and tells the error of Compile.
func holdNodes(t *testing.T, nodes []api.Node, tests bool) api.Errno {
	t.Helper()
	kept := slices.Clone(nodes)
	want, wantErr := wantCompile(nodes, tests)
	got, e := Compile(nodes, tests)
	if e != wantErr || !slices.Equal(got, want) {
		t.Errorf("Compile(%s, %v): %s %v, want %s %v", brief(nodes), tests, brief(got), e, brief(want), wantErr)
	}
	if !slices.Equal(nodes, kept) {
		t.Errorf("%s is changed to %s", brief(kept), brief(nodes))
	}
	if e != api.OK {
		return e
	}
	if h, e := Verify(got, tests); e != api.OK || h < 1 {
		t.Errorf("Verify of the code of %s: %v %v", brief(nodes), h, e)
	}
	if back, e := Back(got, tests); e != api.OK || !slices.Equal(back, nodes) {
		t.Errorf("Back of the code of %s: %s %v", brief(nodes), brief(back), e)
	}
	holdCode(t, got)
	return e
}

// holdCode holds Verify and Back for code against what is wanted, and counts their errors, those for
// tests too.
func holdCode(t *testing.T, code []api.Ins) (verified, backed map[api.Errno]int) {
	t.Helper()
	kept := slices.Clone(code)
	verified, backed = map[api.Errno]int{}, map[api.Errno]int{}
	for _, tests := range []bool{false, true} {
		want, wantErr := wantVerify(code, tests)
		if got, e := Verify(code, tests); got != want || e != wantErr {
			t.Errorf("Verify(%s, %v): %v %v, want %v %v", brief(code), tests, got, e, want, wantErr)
		}
		verified[wantErr]++
		nodes, wantErr := wantBack(code, tests)
		got, e := Back(code, tests)
		if e != wantErr || !slices.Equal(got, nodes) {
			t.Errorf("Back(%s, %v): %s %v, want %s %v", brief(code), tests, brief(got), e, brief(nodes), wantErr)
		}
		backed[wantErr]++
		if again, f := Compile(got, tests); e == api.OK && (f != api.OK || !slices.Equal(again, code)) {
			t.Errorf("Compile of Back(%s, %v): %s %v", brief(code), tests, brief(again), f)
		}
	}
	if !slices.Equal(code, kept) {
		t.Errorf("%s is changed to %s", brief(kept), brief(code))
	}
	return verified, backed
}

// brief is the beginning of what nodes or code look like.
func brief[T any](list []T) string {
	return fmt.Sprintf("%.600s", fmt.Sprint(list))
}

// parse is the nodes of an expression.
func parse(t *testing.T, s string) []api.Node {
	t.Helper()
	nodes, e := expr.Parse(s)
	if e != api.OK {
		t.Fatalf("%q: %v", s, e)
	}
	return nodes
}

// testsOf is the nodes of unary tests.
func testsOf(t *testing.T, s string) []api.Node {
	t.Helper()
	nodes, e := expr.Tests(s)
	if e != api.OK {
		t.Fatalf("%q: %v", s, e)
	}
	return nodes
}

// names of instructions, as the tests write them.
var words = map[string]int{
	"null": 1, "true": 2, "false": 3, "num": 4, "text": 5, "date": 6, "name": 7, "neg": 8, "add": 9, "sub": 10, "mul": 11, "div": 12, "eq": 13, "ne": 14, "lt": 15, "le": 16, "gt": 17, "ge": 18, "and": 19, "or": 20, "if": 21, "between": 22, "in": 23, "path": 24, "call": 25, "list": 26, "ctx": 27, "entry": 28,
	"any": 29, "is": 30, "below": 31, "atmost": 32, "above": 33, "atleast": 34, "span": 35, "some": 36, "not": 37, "jump": 101, "unless": 102, "enter": 103, "leave": 104,
}

// codeOf is the code that a text writes: words, each with its A and its Text behind colons. What needs a
// field to be in form has one.
func codeOf(t *testing.T, s string) []api.Ins {
	t.Helper()
	var list []api.Ins
	for _, w := range strings.Fields(s) {
		word, rest, _ := strings.Cut(w, ":")
		a, text, _ := strings.Cut(rest, ":")
		ins := api.Ins{Op: words[word], Text: text}
		if ins.Op == 0 {
			t.Fatalf("%q: %q", s, w)
		}
		if a != "" {
			fmt.Sscan(a, &ins.A)
		}
		list = append(list, filled(ins))
	}
	return list
}

// filled is an instruction with the fields that it needs to be in form.
func filled(ins api.Ins) api.Ins {
	switch ins.Op {
	case api.OName, api.OPath, api.OCall, api.OEntry:
		if ins.Text == "" {
			ins.Text = "n"
		}
	case api.OSpan:
		if ins.Text == "" {
			ins.Text = "[)"
		}
	case api.ODate:
		ins.Day = 7
	}
	return ins
}

// source makes numbers, the same ones in every test run.
type source struct{ state uint64 }

func (s *source) below(n int) int {
	s.state = s.state*6364136223846793005 + 1442695040888963407
	x := s.state
	x ^= x >> 33
	x *= 0xff51afd7ed558ccd
	return int((x ^ x>>29) >> 1 % uint64(n))
}

// pick is one of the texts.
func (s *source) pick(list ...string) string {
	return list[s.below(len(list))]
}

// expr is a random expression.
func (s *source) expr(deep int) string {
	if deep <= 0 || s.below(6) == 0 {
		return s.pick("a", "b", "1", "2.5", `"t"`, `@"2024-02-29"`, "null", "true", "false", "[]", "{}", "f()")
	}
	sub := func() string { return "(" + s.expr(deep-1) + ")" }
	switch s.below(12) {
	case 0, 1, 2:
		return "if " + sub() + " then " + sub() + " else " + sub()
	case 3, 4:
		return sub() + " in (" + s.tests(deep-1) + ")"
	case 5:
		return sub() + " between " + sub() + " and " + sub()
	case 6:
		return "-" + sub()
	case 7:
		return sub() + ".p"
	case 8:
		return s.pick("f("+sub()+", "+sub()+")", "["+sub()+", "+sub()+"]")
	case 9:
		return "{a: " + sub() + ", b: " + sub() + "}"
	}
	return sub() + s.pick("+", "-", "*", "/", "=", "!=", "<", "<=", ">", ">=", " and ", " or ") + sub()
}

// tests is random tests separated by commas.
func (s *source) tests(deep int) string {
	var list []string
	for range 1 + s.below(3) {
		x, y := "("+s.expr(deep)+")", "("+s.expr(deep)+")"
		list = append(list, s.pick("("+x+")", "< "+x, "<= "+x, "> "+x, ">= "+x, s.pick("[", "(")+x+".."+y+s.pick("]", ")")))
	}
	return strings.Join(list, ", ")
}

// whole is the nodes of a random expression, or of random tests.
func (s *source) whole(deep int) (nodes []api.Node, tests bool) {
	for {
		var e api.Errno
		switch s.below(8) {
		case 0:
			nodes, e = expr.Tests(s.tests(deep))
			tests = true
		case 1:
			nodes, e = expr.Tests("not(" + s.tests(deep) + ")")
			tests = true
		default:
			nodes, e = expr.Parse(s.expr(deep))
			tests = false
		}
		if e == api.OK {
			return nodes, tests
		}
	}
}

// num is a decimal.
func num(t *testing.T, s string) api.Dec {
	t.Helper()
	d, e := dec.Parse(s)
	if e != api.OK {
		t.Fatal(s, e)
	}
	return d
}
