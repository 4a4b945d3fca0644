package calc

import (
	"fmt"
	"math/big"
	"reflect"
	"slices"
	"strings"
	"testing"
	"time"

	"tariff/api"
	"tariff/code"
	"tariff/dec"
	"tariff/expr"
	"tariff/value"
)

// What the chapter says, node by node from the whole down to its parts, with an error as a panic; the
// functions by the library's means as far as they go.

// world is what an expression is evaluated in.
type world struct {
	nodes []api.Node
	names api.Value
}

// may is a value, unless there is an error.
func may(v api.Value, e api.Errno) api.Value {
	if e != api.OK {
		panic(e)
	}
	return v
}

// numOf is a number as a value, unless there is an error.
func numOf(d api.Dec, e api.Errno) api.Value {
	return may(api.Value{Kind: api.Num, Num: d}, e)
}

// boolOf is true or false as a value.
func boolOf(yes bool) api.Value {
	return api.Value{Kind: api.Bool, Yes: yes}
}

// wantEntry is an entry of a context, or null.
func wantEntry(v api.Value, name string) api.Value {
	for i, n := range v.Names {
		if n == name {
			return v.List[i]
		}
	}
	return api.Value{}
}

// node is the value of the node at a place; of a test it is its result for a value.
func (w world) node(at int, asked api.Value) api.Value {
	n := w.nodes[at]
	kids, _ := expr.Parts(w.nodes, at)
	part := func(i int) api.Value { return w.node(kids[i], asked) }
	switch n.Op {
	case api.ONull, api.OTrue, api.OFalse, api.ONum, api.OText, api.ODate:
		kind := map[int]int{api.ONull: api.Null, api.OTrue: api.Bool, api.OFalse: api.Bool, api.ONum: api.Num, api.OText: api.Text, api.ODate: api.Date}[n.Op]
		return api.Value{Kind: kind, Yes: n.Op == api.OTrue, Num: n.Num, Text: n.Text, Day: n.Day}
	case api.OName:
		return wantEntry(w.names, n.Text)
	case api.OPath:
		if a := part(0); a.Kind == api.Ctx {
			return wantEntry(a, n.Text)
		}
		return api.Value{}
	case api.OEntry:
		return part(0)
	case api.ONeg:
		if a := part(0); a.Kind == api.Num {
			return numOf(dec.Sub(api.Dec{}, a.Num))
		}
		return api.Value{}
	case api.OIf:
		if a := part(0); a.Kind == api.Bool && a.Yes {
			return part(1)
		}
		return part(2)
	case api.OIn:
		return w.node(kids[1], part(0))
	}
	var l []api.Value
	for i := range kids {
		l = append(l, part(i))
	}
	return w.whole(n, kids, l, asked)
}

// whole is the value of a node all of whose parts have been evaluated.
func (w world) whole(n api.Node, kids []int, l []api.Value, asked api.Value) api.Value {
	switch n.Op {
	case api.OBetween:
		return may(value.And(may(value.Not(may(value.Less(l[0], l[1])))), may(value.Not(may(value.Less(l[2], l[0]))))))
	case api.OCall:
		return may(wantCall(n.Text, l))
	case api.OList:
		return grown(api.Value{Kind: api.List, List: l})
	case api.OCtx:
		v := api.Value{Kind: api.Ctx, List: l}
		for _, k := range kids {
			v.Names = append(v.Names, w.nodes[k].Text)
		}
		return grown(v)
	case api.OAny:
		return boolOf(true)
	case api.OIs, api.OBelow, api.OAtMost, api.OAbove, api.OAtLeast, api.OSpan:
		return wantTest(n, l, asked)
	case api.OSome:
		result := l[0]
		for _, r := range l[1:] {
			result = may(value.Or(result, r))
		}
		return result
	case api.ONot:
		return may(value.Not(l[0]))
	}
	return wantPair(n.Op, l[0], l[1])
}

// wantTest is the result of a test, as chapter 12 has it.
func wantTest(n api.Node, l []api.Value, v api.Value) api.Value {
	switch n.Op {
	case api.OIs:
		return may(value.Equal(v, l[0]))
	case api.OBelow:
		return may(value.Less(v, l[0]))
	case api.OAtMost:
		return may(value.Not(may(value.Less(l[0], v))))
	case api.OAbove:
		return may(value.Less(l[0], v))
	case api.OAtLeast:
		return may(value.Not(may(value.Less(v, l[0]))))
	}
	from := map[byte]int{'[': api.OAtLeast, '(': api.OAbove}[n.Text[0]]
	to := map[byte]int{']': api.OAtMost, ')': api.OBelow}[n.Text[1]]
	return may(value.And(wantTest(api.Node{Op: from}, l[:1], v), wantTest(api.Node{Op: to}, l[1:], v)))
}

// wantPair is the value of an operation with two sides.
func wantPair(op int, a, b api.Value) api.Value {
	both := func(kind int) bool { return a.Kind == kind && b.Kind == kind }
	switch op {
	case api.OAdd:
		if both(api.Text) {
			if len(a.Text)+len(b.Text) > 1000 {
				panic(api.ErrLong)
			}
			return api.Value{Kind: api.Text, Text: a.Text + b.Text}
		}
		fallthrough
	case api.OSub, api.OMul, api.ODiv:
		if !both(api.Num) {
			return api.Value{}
		}
		return numOf(map[int]func(a, b api.Dec) (api.Dec, api.Errno){api.OAdd: dec.Add, api.OSub: dec.Sub, api.OMul: dec.Mul, api.ODiv: dec.Div}[op](a.Num, b.Num))
	case api.OEq:
		return may(value.Equal(a, b))
	case api.ONe:
		return may(value.Not(may(value.Equal(a, b))))
	case api.OLt:
		return may(value.Less(a, b))
	case api.OGt:
		return may(value.Less(b, a))
	case api.OLe:
		return may(value.Not(may(value.Less(b, a))))
	case api.OGe:
		return may(value.Not(may(value.Less(a, b))))
	case api.OAnd:
		return may(value.And(a, b))
	case api.OOr:
		return may(value.Or(a, b))
	}
	panic("no such operation")
}

// grown is a list or a context, unless it has grown too long or too deep.
func grown(v api.Value) api.Value {
	parts, depth := 0, 0
	var count func(v api.Value, d int)
	count = func(v api.Value, d int) {
		parts++
		depth = max(depth, d)
		for _, w := range v.List {
			count(w, d+1)
		}
	}
	count(v, 1)
	switch {
	case parts > 1000:
		panic(api.ErrLong)
	case depth > 16:
		panic(api.ErrDeep)
	}
	return v
}

// caught is what a function comes to; an error that it panics with is one that it answers.
func caught(f func() api.Value) (v api.Value, e api.Errno) {
	defer func() {
		if r := recover(); r != nil {
			v, e = api.Value{}, r.(api.Errno)
		}
	}()
	return f(), api.OK
}

// function is what the chapter's table says of a function: the kinds of its parameters (N a number, W a
// whole, T a text, D a date, L a list, M a list of numbers, at least one, A anything), and its value.
type function struct {
	kinds string
	of    func(l []api.Value) api.Value
}

var functions = map[string]function{
	"abs":   {"N", func(l []api.Value) api.Value { return ofRat(new(big.Rat).Abs(ratio(l[0].Num))) }},
	"floor": {"N", func(l []api.Value) api.Value { return ofInt(floor(ratio(l[0].Num))) }},
	"ceiling": {"N", func(l []api.Value) api.Value {
		return ofInt(new(big.Int).Neg(floor(new(big.Rat).Neg(ratio(l[0].Num)))))
	}},
	"round":     {"NW", round},
	"modulo":    {"NN", modulo},
	"min":       {"M", func(l []api.Value) api.Value { return slices.MinFunc(l[0].List, below) }},
	"max":       {"M", func(l []api.Value) api.Value { return slices.MaxFunc(l[0].List, below) }},
	"sum":       {"M", sum},
	"count":     {"L", func(l []api.Value) api.Value { return plain(len(l[0].List)) }},
	"contains":  {"TT", func(l []api.Value) api.Value { return boolOf(strings.Index(l[0].Text, l[1].Text) >= 0) }},
	"starts":    {"TT", func(l []api.Value) api.Value { return boolOf(strings.Index(l[0].Text, l[1].Text) == 0) }},
	"length":    {"T", func(l []api.Value) api.Value { return plain(len([]rune(l[0].Text))) }},
	"substring": {"TWW", substring},
	"upper":     {"T", func(l []api.Value) api.Value { return textOf(strings.Map(upper, l[0].Text)) }},
	"lower":     {"T", func(l []api.Value) api.Value { return textOf(strings.Map(lower, l[0].Text)) }},
	"date":      {"T", dateOf},
	"year":      {"D", func(l []api.Value) api.Value { return plain(calendar(l[0].Day).Year()) }},
	"month":     {"D", func(l []api.Value) api.Value { return plain(int(calendar(l[0].Day).Month())) }},
	"day":       {"D", func(l []api.Value) api.Value { return plain(calendar(l[0].Day).Day()) }},
	"weekday":   {"D", func(l []api.Value) api.Value { return plain((int(calendar(l[0].Day).Weekday())+6)%7 + 1) }},
	"days":      {"DW", days},
	"months":    {"DW", months},
	"negate":    {"A", func(l []api.Value) api.Value { return wantNot(l[0]) }},
	"append": {"LA", func(l []api.Value) api.Value {
		return grown(api.Value{Kind: api.List, List: slices.Concat(l[0].List, l[1:])})
	}},
	"string": {"A", stringOf},
}

// wantCall is Call.
func wantCall(name string, l []api.Value) (api.Value, api.Errno) {
	for _, v := range l {
		if e := value.Check(v); e != api.OK {
			return api.Value{}, e
		}
	}
	f, ok := functions[name]
	switch {
	case !ok:
		return api.Value{}, api.ErrName
	case len(l) != len(f.kinds):
		return api.Value{}, api.ErrType
	}
	for i, kind := range f.kinds {
		if !wantKind(l[i], kind) {
			return api.Value{}, api.OK
		}
	}
	return caught(func() api.Value { return f.of(l) })
}

// wantKind tells whether a value is of a kind of the table.
func wantKind(v api.Value, kind rune) bool {
	switch kind {
	case 'N':
		return v.Kind == api.Num
	case 'W':
		return v.Kind == api.Num && ratio(v.Num).IsInt() && ratio(v.Num).Num().IsInt64()
	case 'T':
		return v.Kind == api.Text
	case 'D':
		return v.Kind == api.Date
	case 'L':
		return v.Kind == api.List
	case 'M':
		return v.Kind == api.List && len(v.List) > 0 && !slices.ContainsFunc(v.List, func(w api.Value) bool { return w.Kind != api.Num })
	}
	return true
}

// ratio is a decimal as a fraction.
func ratio(d api.Dec) *big.Rat {
	top := new(big.Int).Lsh(new(big.Int).SetUint64(d.Coef.Hi), 64)
	top.Or(top, new(big.Int).SetUint64(d.Coef.Lo))
	if d.Neg {
		top.Neg(top)
	}
	return new(big.Rat).SetFrac(top, new(big.Int).Exp(big.NewInt(10), big.NewInt(int64(d.Scale)), nil))
}

// ofRat is the decimal that equals a fraction.
func ofRat(r *big.Rat) api.Value {
	text := r.FloatString(18)
	if strings.Contains(text, ".") {
		text = strings.TrimRight(strings.TrimRight(text, "0"), ".")
	}
	if text == "-0" {
		text = "0"
	}
	return numOf(dec.Parse(text))
}

func ofInt(n *big.Int) api.Value {
	return ofRat(new(big.Rat).SetInt(n))
}

func plain(n int) api.Value {
	return ofInt(big.NewInt(int64(n)))
}

func textOf(s string) api.Value {
	return api.Value{Kind: api.Text, Text: s}
}

// floor is the greatest whole number that is at most a fraction.
func floor(r *big.Rat) *big.Int {
	return new(big.Int).Div(r.Num(), r.Denom())
}

// below tells the order of two numbers.
func below(a, b api.Value) int {
	return ratio(a.Num).Cmp(ratio(b.Num))
}

func round(l []api.Value) api.Value {
	n, _ := dec.Int(l[1].Num)
	if n < 0 || n > 18 {
		return api.Value{}
	}
	unit := new(big.Rat).SetInt(new(big.Int).Exp(big.NewInt(10), big.NewInt(int64(n)), nil))
	scaled := new(big.Rat).Mul(ratio(l[0].Num), unit)
	low := floor(scaled)
	rest := new(big.Rat).Sub(scaled, new(big.Rat).SetInt(low))
	if side := rest.Cmp(big.NewRat(1, 2)); side > 0 || side == 0 && low.Bit(0) == 1 {
		low.Add(low, big.NewInt(1))
	}
	return ofRat(new(big.Rat).Quo(new(big.Rat).SetInt(low), unit))
}

func modulo(l []api.Value) api.Value {
	return numOf(dec.Mod(l[0].Num, l[1].Num))
}

func sum(l []api.Value) api.Value {
	total := l[0].List[0]
	for _, v := range l[0].List[1:] {
		total = wantPair(api.OAdd, total, v)
	}
	return total
}

func substring(l []api.Value) api.Value {
	from, _ := dec.Int(l[1].Num)
	n, _ := dec.Int(l[2].Num)
	if from == 0 || n < 0 {
		return api.Value{}
	}
	runes := []rune(l[0].Text)
	if from < 0 {
		from = max(len(runes)+from, 0) + 1
	}
	if from > len(runes) {
		return textOf("")
	}
	rest := runes[from-1:]
	return textOf(string(rest[:min(n, len(rest))]))
}

func upper(r rune) rune {
	if strings.ContainsRune("abcdefghijklmnopqrstuvwxyz", r) {
		return r - 32
	}
	return r
}

func lower(r rune) rune {
	if strings.ContainsRune("ABCDEFGHIJKLMNOPQRSTUVWXYZ", r) {
		return r + 32
	}
	return r
}

// first is the day 1.
var first = time.Date(1, 1, 1, 0, 0, 0, 0, time.UTC)

// calendar is a day of the library's calendar.
func calendar(day int) time.Time {
	return first.AddDate(0, 0, day-1)
}

// numbered is the value of a day of the library's calendar, unless it is too far.
func numbered(t time.Time) api.Value {
	if t.Year() < 1 || t.Year() > 9999 {
		panic(api.ErrFar)
	}
	return api.Value{Kind: api.Date, Day: int(t.Unix()/86400-first.Unix()/86400) + 1}
}

func dateOf(l []api.Value) api.Value {
	t, err := time.Parse("2006-01-02", l[0].Text)
	if err != nil || t.Year() == 0 {
		return api.Value{}
	}
	return numbered(t)
}

func days(l []api.Value) api.Value {
	n, _ := dec.Int(l[1].Num)
	if n > 4000000 || n < -4000000 {
		panic(api.ErrFar)
	}
	return numbered(calendar(l[0].Day).AddDate(0, 0, n))
}

func months(l []api.Value) api.Value {
	n, _ := dec.Int(l[1].Num)
	if n > 200000 || n < -200000 {
		panic(api.ErrFar)
	}
	t := calendar(l[0].Day)
	then := time.Date(t.Year(), t.Month()+time.Month(n), 1, 0, 0, 0, 0, time.UTC)
	last := then.AddDate(0, 1, -1).Day()
	return numbered(then.AddDate(0, 0, min(t.Day(), last)-1))
}

func wantNot(v api.Value) api.Value {
	if v.Kind != api.Bool {
		return api.Value{}
	}
	return boolOf(!v.Yes)
}

func stringOf(l []api.Value) api.Value {
	s, _ := value.Print(l[0])
	if len(s) > 1000 {
		panic(api.ErrLong)
	}
	return textOf(s)
}

// wantRun is Eval of nodes, or Test.
func wantRun(nodes []api.Node, tests bool, names, v api.Value) (api.Value, api.Errno) {
	e := expr.Check(nodes, tests)
	if e == api.OK {
		e = value.Check(names)
	}
	if e == api.OK && names.Kind != api.Ctx {
		e = api.ErrType
	}
	if e == api.OK && tests {
		e = value.Check(v)
	}
	if e != api.OK {
		return api.Value{}, e
	}
	return caught(func() api.Value { return world{nodes, names}.node(len(nodes)-1, v) })
}

// same tells whether two values are the same; nil and empty slices are.
func same(a, b api.Value) bool {
	return reflect.DeepEqual(copied(a), copied(b))
}

// copied is a value with memory of its own, and without empty slices.
func copied(v api.Value) api.Value {
	v.Names = append([]string(nil), v.Names...)
	items := v.List
	v.List = nil
	for _, w := range items {
		v.List = append(v.List, copied(w))
	}
	return v
}

// hold holds Eval or Test of nodes, and Run of their code, against what is wanted, and tells what is wanted.
func hold(t *testing.T, nodes []api.Node, tests bool, names, v api.Value) (api.Value, api.Errno) {
	t.Helper()
	want, wantErr := wantRun(nodes, tests, names, v)
	var got api.Value
	var e api.Errno
	if tests {
		got, e = Test(nodes, names, v)
	} else {
		got, e = Eval(nodes, names)
	}
	if !same(got, want) || e != wantErr {
		t.Errorf("tests %v of %s with %s, %s: %s %v, want %s %v", tests, brief(nodes), print(names), print(v), print(got), e, print(want), wantErr)
	}
	if value.Check(got) != api.OK {
		t.Errorf("tests %v of %s with %s, %s: %s is not in form", tests, brief(nodes), print(names), print(v), print(got))
	}
	if list, f := code.Compile(nodes, tests); f == api.OK && value.Check(v) == api.OK {
		if again, f := Run(list, tests, names, v); !same(again, want) || f != wantErr {
			t.Errorf("Run of tests %v of %s with %s, %s: %s %v, want %s %v", tests, brief(nodes), print(names), print(v), print(again), f, print(want), wantErr)
		}
	}
	return want, wantErr
}

// holdCall holds Call against what is wanted, and tells the error that is wanted.
func holdCall(t *testing.T, name string, l []api.Value) (api.Value, api.Errno) {
	t.Helper()
	want, wantErr := wantCall(name, l)
	got, e := Call(name, l)
	if !same(got, want) || e != wantErr {
		t.Errorf("Call(%.20q, %s): %s %v, want %s %v", name, print(l...), print(got), e, print(want), wantErr)
	}
	if value.Check(got) != api.OK {
		t.Errorf("Call(%.20q, %s): %s is not in form", name, print(l...), print(got))
	}
	return want, wantErr
}

// brief is the beginning of what nodes look like.
func brief(nodes []api.Node) string {
	return fmt.Sprintf("%.400s", fmt.Sprint(nodes))
}

// print is the beginning of what values look like.
func print(l ...api.Value) string {
	var list []string
	for _, v := range l {
		s, e := value.Print(v)
		if e != api.OK {
			s = fmt.Sprint("no value: ", e)
		}
		list = append(list, fmt.Sprintf("%.300s", s))
	}
	return strings.Join(list, " | ")
}

// read is the value of a text.
func read(t *testing.T, s string) api.Value {
	t.Helper()
	v, e := value.Read(s)
	if e != api.OK {
		t.Fatalf("%q: %v", s, e)
	}
	return v
}

// readNodes is the nodes of an expression, or of tests.
func readNodes(s string, tests bool) ([]api.Node, api.Errno) {
	if tests {
		return expr.Tests(s)
	}
	return expr.Parse(s)
}

// parse is the nodes of an expression, or of tests, which there must be.
func parse(t *testing.T, s string, tests bool) []api.Node {
	t.Helper()
	nodes, e := readNodes(s, tests)
	if e != api.OK {
		t.Fatalf("%q: %v", s, e)
	}
	return nodes
}

// context is the context of some values, by names.
func context(names string, l ...api.Value) api.Value {
	return api.Value{Kind: api.Ctx, List: l, Names: strings.Fields(names)}
}

// nulls is a list of so many nulls.
func nulls(n int) api.Value {
	return api.Value{Kind: api.List, List: make([]api.Value, n)}
}

// nested is null within so many lists.
func nested(n int) api.Value {
	v := api.Value{}
	for range n {
		v = api.Value{Kind: api.List, List: []api.Value{v}}
	}
	return v
}

// samples is values of all kinds; none is too long or too deep to be among names, even twice.
func samples(t *testing.T) []api.Value {
	t.Helper()
	var list []api.Value
	for _, s := range []string{
		"null", "true", "false", "0", "1", "-1", "2", "3", "18", "19", "2.5", "-2.5", "0.000000000000000001", "9999999999999999999999999999999999", "-9999999999999999999999999999999999", "9223372036854775807", "-9223372036854775808", "9223372036854775808", "3652058", `""`, `"a"`, `"ab"`, `"Zebra"`, `"é"`, `"aé€😀z"`, `"2024-02-29"`, `"2023-02-29"`, `"0001-01-01"`, `"2024-2-29"`, `@"0001-01-01"`, `@"2024-02-29"`, `@"2024-01-31"`, `@"9999-12-31"`,
		"[]", "[1]", "[1, 2.5, -3]", "[-3, 1, 1]", "[1, null]", "[null]", `["a"]`, `[1, "a"]`, "[[1]]", "[9999999999999999999999999999999999, 1]", "[9999999999999999999999999999999999, 1, null]", "[true, false]", "{}", "{a: 1}", "{b: 1, a: {c: [2]}}", `{a: "1"}`, "[{a: 1}]",
	} {
		list = append(list, read(t, s))
	}
	long := textOf(strings.Repeat("x", 999) + "y")
	middle := textOf(strings.Repeat("é", 250))
	return append(list, long, middle, nulls(300), nested(14))
}

// source makes numbers, the same ones in every test run.
type source struct{ state uint64 }

func (s *source) below(n int) int {
	s.state = s.state*6364136223846793005 + 1442695040888963407
	x := s.state
	x ^= x >> 33
	x *= 0xff51afd7ed558ccd
	return int((x ^ x>>29) >> 1 % uint64(n))
}

// pick is one of the texts.
func (s *source) pick(list ...string) string {
	return list[s.below(len(list))]
}

// expr is a random expression, mostly of a kind: n a number, s a text, d a date, b a boolean, l a list, m a
// list of numbers, c a context.
func (s *source) expr(kind byte, deep int) string {
	if s.below(25) == 0 {
		kind = "nsdblmc"[s.below(7)]
	}
	if s.below(120) == 0 {
		return s.pick("null", "y", "(1 / 0)", "f(1)", "abs(1, 2)", `days(@"9999-12-31", 1)`, "9999999999999999999999999999999999 * 10")
	}
	if deep <= 0 || s.below(5) == 0 {
		return s.atom(kind)
	}
	sub := func(kind byte) string { return "(" + s.expr(kind, deep-1) + ")" }
	if s.below(6) == 0 {
		return s.pick("if "+sub('b')+" then "+sub(kind)+" else "+sub(kind), "{a: "+sub(kind)+", b: "+sub('n')+"}.a", "{b: "+sub('n')+"}."+s.pick("a", "b"))
	}
	order := "nsd"[s.below(3)]
	some := "nsdblmc"[s.below(7)]
	switch kind {
	case 'n':
		return s.pick("-"+sub('n'), sub('n')+s.pick("+", "-", "*")+sub('n'), sub('n')+"/"+sub('n'), "abs("+sub('n')+")", "floor("+sub('n')+")", "ceiling("+sub('n')+")", "round("+sub('n')+", "+sub('n')+")", "modulo("+sub('n')+", "+sub('n')+")", "min("+sub('m')+")", "max("+sub('m')+")", "sum("+sub('m')+")", "count("+sub('l')+")", "length("+sub('s')+")", "year("+sub('d')+")", "month("+sub('d')+")", "day("+sub('d')+")", "weekday("+sub('d')+")")
	case 's':
		return s.pick(sub('s')+"+"+sub('s'), "substring("+sub('s')+", "+sub('n')+", "+sub('n')+")", "upper("+sub('s')+")", "lower("+sub('s')+")", "string("+sub(some)+")")
	case 'd':
		return s.pick("date("+sub('s')+")", "date(substring(string("+sub('d')+"), 3, 10))", "days("+sub('d')+", "+sub('n')+")", "months("+sub('d')+", "+sub('n')+")")
	case 'b':
		return s.pick(sub('b')+s.pick(" and ", " or ")+sub('b'), sub(some)+s.pick("=", "!=")+sub(some), sub(order)+s.pick("<", "<=", ">", ">=")+sub(order), sub(order)+" between "+sub(order)+" and "+sub(order), sub(order)+" in ("+s.tests(order, deep-1)+")", "contains("+sub('s')+", "+sub('s')+")", "starts("+sub('s')+", "+sub('s')+")", "negate("+sub('b')+")")
	case 'l':
		return s.pick("["+sub(some)+", "+sub('n')+"]", "["+sub(some)+"]", "append("+sub('l')+", "+sub(some)+")")
	case 'm':
		return s.pick("["+sub('n')+", "+sub('n')+"]", "["+sub('n')+"]", "append("+sub('m')+", "+sub('n')+")")
	}
	return s.pick("{a: "+sub(some)+"}", "{a: "+sub(some)+", b: "+sub('n')+", c: "+sub('c')+"}", sub('c')+".c")
}

// atom is a random name or literal of a kind.
func (s *source) atom(kind byte) string {
	switch kind {
	case 'n':
		return s.pick("n", "n", "one", "0", "1", "2", "3", "2.5", "0.1", "10")
	case 's':
		return s.pick("s", "s", `"a"`, `"ab"`, `""`, `"é"`, `"2024-02-29"`)
	case 'd':
		return s.pick("d", `@"2024-02-29"`, `@"2023-12-31"`)
	case 'b':
		return s.pick("b", "true", "false", "true", "null")
	case 'l':
		return s.pick("l", "[]", `["a", 1]`)
	case 'm':
		return s.pick("m", "[1]", "[3, 1, 2]")
	}
	return s.pick("c", "{}", "{a: 1}")
}

// tests is random tests separated by commas, mostly of a kind.
func (s *source) tests(kind byte, deep int) string {
	var list []string
	for range 1 + s.below(3) {
		x, y := "("+s.expr(kind, deep)+")", "("+s.expr(kind, deep)+")"
		list = append(list, s.pick("("+x+")", "< "+x, "<= "+x, "> "+x, ">= "+x, s.pick("[", "(")+x+".."+y+s.pick("]", ")")))
	}
	return strings.Join(list, ", ")
}
