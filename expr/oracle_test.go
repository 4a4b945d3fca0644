package expr

import (
	"fmt"
	"math"
	"reflect"
	"slices"
	"strconv"
	"strings"
	"testing"

	"tariff/api"
	"tariff/chars"
	"tariff/dec"
)

// What the chapter says of nodes, worked out from the last node backwards.

// shape is what the chapter's table says of an operation: how many parts it may have, what
// item it is (E expression, N entry, T test, S OSome, W only as the whole), what its parts
// are (the last letter holds for all that follow), and which field it uses.
type shape struct {
	least, most int
	item        byte
	parts       string
	field       string
}

var shapes = map[int]shape{
	api.ONull: {0, 0, 'E', "", ""}, api.OTrue: {0, 0, 'E', "", ""}, api.OFalse: {0, 0, 'E', "", ""},
	api.ONum: {0, 0, 'E', "", "num"}, api.OText: {0, 0, 'E', "", "text"}, api.ODate: {0, 0, 'E', "", "day"}, api.OName: {0, 0, 'E', "", "name"},
	api.ONeg: {1, 1, 'E', "E", ""}, api.OAdd: {2, 2, 'E', "E", ""}, api.OSub: {2, 2, 'E', "E", ""}, api.OMul: {2, 2, 'E', "E", ""}, api.ODiv: {2, 2, 'E', "E", ""},
	api.OEq: {2, 2, 'E', "E", ""}, api.ONe: {2, 2, 'E', "E", ""}, api.OLt: {2, 2, 'E', "E", ""}, api.OLe: {2, 2, 'E', "E", ""}, api.OGt: {2, 2, 'E', "E", ""}, api.OGe: {2, 2, 'E', "E", ""},
	api.OAnd: {2, 2, 'E', "E", ""}, api.OOr: {2, 2, 'E', "E", ""}, api.OIf: {3, 3, 'E', "E", ""}, api.OBetween: {3, 3, 'E', "E", ""}, api.OIn: {2, 2, 'E', "ES", ""},
	api.OPath: {1, 1, 'E', "E", "name"}, api.OCall: {0, 8, 'E', "E", "name"}, api.OList: {0, math.MaxInt, 'E', "E", ""}, api.OCtx: {0, math.MaxInt, 'E', "N", ""}, api.OEntry: {1, 1, 'N', "E", "name"},
	api.OAny: {0, 0, 'W', "", ""}, api.OIs: {1, 1, 'T', "E", ""}, api.OBelow: {1, 1, 'T', "E", ""}, api.OAtMost: {1, 1, 'T', "E", ""}, api.OAbove: {1, 1, 'T', "E", ""}, api.OAtLeast: {1, 1, 'T', "E", ""},
	api.OSpan: {2, 2, 'T', "E", "span"}, api.OSome: {1, math.MaxInt, 'S', "T", ""}, api.ONot: {1, 1, 'W', "S", ""},
}

// back is the parts of the node at a place, and the place ahead of its first part; false if it has
// not the parts that it needs.
func back(nodes []api.Node, at int) (kids []int, ahead int, ok bool) {
	n := nodes[at]
	s, known := shapes[n.Op]
	if !known || n.Kids < s.least || n.Kids > s.most {
		return nil, 0, false
	}
	ahead = at - 1
	for len(kids) < n.Kids {
		if ahead < 0 {
			return nil, 0, false
		}
		kids = append(kids, ahead)
		if _, ahead, ok = back(nodes, ahead); !ok {
			return nil, 0, false
		}
	}
	slices.Reverse(kids)
	return kids, ahead, true
}

// wantParts is Parts.
func wantParts(nodes []api.Node, at int) ([]int, int, api.Errno) {
	if len(nodes) > 300 {
		return nil, 0, api.ErrLong
	}
	if at < 0 || at >= len(nodes) {
		return nil, 0, api.ErrArg
	}
	for i := range at {
		if _, _, ok := back(nodes, i); !ok {
			return nil, 0, api.ErrForm
		}
	}
	kids, ahead, ok := back(nodes, at)
	if !ok {
		return nil, 0, api.ErrForm
	}
	return kids, ahead, api.OK
}

// wantCheck is Check.
func wantCheck(nodes []api.Node, tests bool) api.Errno {
	if len(nodes) > 300 {
		return api.ErrLong
	}
	last := len(nodes) - 1
	if last < 0 {
		return api.ErrForm
	}
	if _, ahead, e := wantParts(nodes, last); e != api.OK || ahead != -1 {
		return api.ErrForm
	}
	item := shapes[nodes[last].Op].item
	if tests && item != 'S' && item != 'W' || !tests && item != 'E' {
		return api.ErrForm
	}
	deep, ok := deepFrom(nodes, last)
	switch {
	case !ok:
		return api.ErrForm
	case deep > 40:
		return api.ErrDeep
	}
	return api.OK
}

// deepFrom is the depth of a node; false if it or a part of it is not in form.
func deepFrom(nodes []api.Node, at int) (int, bool) {
	n := nodes[at]
	s := shapes[n.Op]
	kids, _, _ := back(nodes, at)
	deep := 1
	names := map[string]bool{}
	for i, k := range kids {
		if shapes[nodes[k].Op].item != s.parts[min(i, len(s.parts)-1)] {
			return 0, false
		}
		d, ok := deepFrom(nodes, k)
		if !ok || n.Op == api.OCtx && names[nodes[k].Text] {
			return 0, false
		}
		names[nodes[k].Text] = true
		deep = max(deep, d+1)
	}
	return deep, wantFields(n, s.field)
}

// wantFields tells whether the one field that is used is allowed, and the others are zero.
func wantFields(n api.Node, field string) bool {
	want := api.Node{Op: n.Op, Kids: n.Kids}
	ok := true
	switch field {
	case "num":
		want.Num, ok = n.Num, dec.Form(n.Num) && !n.Num.Neg
	case "text":
		want.Text, ok = n.Text, len(n.Text) <= 1000 && chars.Valid(n.Text)
	case "day":
		want.Day, ok = n.Day, 1 <= n.Day && n.Day <= 3652059
	case "name":
		want.Text, ok = n.Text, chars.Name(n.Text)
	case "span":
		want.Text, ok = n.Text, slices.Contains([]string{"[]", "[)", "(]", "()"}, n.Text)
	}
	return ok && n == want
}

// holdCheck holds Check against what is wanted, for both kinds of nodes, and tells what is wanted of an expression.
func holdCheck(t *testing.T, nodes []api.Node) api.Errno {
	t.Helper()
	kept := slices.Clone(nodes)
	for _, tests := range []bool{false, true} {
		if got, want := Check(nodes, tests), wantCheck(nodes, tests); got != want {
			t.Errorf("Check(%s, %v): %v, want %v", brief(nodes), tests, got, want)
		}
	}
	if !slices.Equal(nodes, kept) {
		t.Errorf("Check changes %s to %s", brief(kept), brief(nodes))
	}
	return wantCheck(nodes, false)
}

// holdParts holds Parts against what is wanted, and tells the error that is wanted.
func holdParts(t *testing.T, nodes []api.Node, at int) api.Errno {
	t.Helper()
	kept := slices.Clone(nodes)
	want, _, wantErr := wantParts(nodes, at)
	got, e := Parts(nodes, at)
	if e != wantErr || !slices.Equal(got, want) {
		t.Errorf("Parts(%s, %v): %v %v, want %v %v", brief(nodes), at, got, e, want, wantErr)
	}
	if !slices.Equal(nodes, kept) {
		t.Errorf("Parts changes %s to %s", brief(kept), brief(nodes))
	}
	return wantErr
}

// hold holds Parse and Tests against what is wanted, and tells the errors that are wanted.
func hold(t *testing.T, s string) (api.Errno, api.Errno) {
	t.Helper()
	var errs [2]api.Errno
	for i, read := range []func(string) ([]api.Node, api.Errno){Parse, Tests} {
		want, wantErr := wantParse(t, s, i == 1)
		got, e := read(s)
		if e != wantErr || len(got) != len(want) || len(got) > 0 && !reflect.DeepEqual(got, want) {
			t.Errorf("tests %v of %.300q: %s %v, want %s %v", i == 1, s, brief(got), e, brief(want), wantErr)
		}
		if f := Check(got, i == 1); e == api.OK && f != api.OK {
			t.Errorf("Check of the nodes of %q: %v", s, f)
		}
		errs[i] = wantErr
	}
	return errs[0], errs[1]
}

// brief is the beginning of what nodes look like.
func brief(nodes []api.Node) string {
	return fmt.Sprintf("%.500s", fmt.Sprint(nodes))
}

// source makes numbers, the same ones in every test run.
type source struct{ state uint64 }

func (s *source) below(n int) int {
	s.state = s.state*6364136223846793005 + 1442695040888963407
	x := s.state
	x ^= x >> 33
	x *= 0xff51afd7ed558ccd
	return int((x ^ x>>29) >> 1 % uint64(n))
}

// pick is one of the texts.
func (s *source) pick(list ...string) string {
	return list[s.below(len(list))]
}

// words hands every string of at most so many of the pieces, with blanks between, to a check.
func words(pieces []string, most int, check func(s string)) {
	check("")
	if most == 0 {
		return
	}
	for _, p := range pieces {
		words(pieces, most-1, func(s string) { check(p + " " + s) })
	}
}

// node is a random item of a kind, with the nodes of its parts ahead of it.
func (s *source) node(item byte, deep int) []api.Node {
	var ops []int
	for op := api.ONull; op <= api.ONot; op++ {
		if x := shapes[op]; x.item == item && (deep > 0 || x.least == 0 || item != 'E') {
			ops = append(ops, op)
		}
	}
	op := ops[s.below(len(ops))]
	x := shapes[op]
	n := api.Node{Op: op, Kids: x.least}
	if x.most > x.least && deep > 0 {
		n.Kids += s.below(4)
	}
	switch x.field {
	case "num":
		n.Num, _ = dec.Parse(s.pick("0", "1", "2.5", "0.000000000000000001", "9999999999999999999999999999999999"))
	case "text":
		n.Text = s.pick("", "a", "it's \"so\"", "\\\n", "é")
	case "day":
		n.Day = 1 + s.below(3652059)
	case "name":
		n.Text = s.pick("a", "b", "price", "_", "x1")
	case "span":
		n.Text = s.pick("[]", "[)", "(]", "()")
	}
	var nodes []api.Node
	for i := range n.Kids {
		kid := s.node(x.parts[min(i, len(x.parts)-1)], deep-1)
		if op == api.OCtx {
			kid[len(kid)-1].Text = "n" + strconv.Itoa(i)
		}
		nodes = append(nodes, kid...)
	}
	return append(nodes, n)
}

// sentence is a random text by a rule of the grammar.
func (s *source) sentence(p part, deep int) string {
	switch p.form {
	case 'l':
		return p.text + " "
	case 'a':
		return s.sentence(p.parts[s.choice(p, deep)], deep)
	case 'o':
		if s.below(2) == 0 || deep < 0 {
			return ""
		}
		return s.sentence(p.parts[0], deep)
	case 'r':
		text := ""
		for deep >= 0 && s.below(3) == 0 {
			text += s.sentence(p.parts[0], deep)
		}
		return text
	case 's':
		text := ""
		for _, q := range p.parts {
			text += s.sentence(q, deep)
		}
		return text
	}
	switch p.text {
	case "number":
		return s.pick("1", "2.5", "0 ", "10 ")
	case "text":
		return s.pick(`"a"`, `""`, `"\"..["`, `"if"`)
	case "day":
		return s.pick(`@"2024-02-29"`, `@"0001-01-01" `)
	case "name":
		return s.pick("a ", "b ", "price ", "_ ")
	}
	return s.sentence(rules[p.text], deep-1)
}

// choice is one of the alternatives; deep down one that ends soon.
func (s *source) choice(p part, deep int) int {
	if deep >= 0 {
		return s.below(len(p.parts))
	}
	for i, q := range p.parts {
		if len(q.parts) == 1 && (q.parts[0].form == 'w' && !strings.Contains(" expr test tests ", " "+q.parts[0].text+" ")) {
			return i
		}
	}
	return s.below(len(p.parts))
}
