package expr

import (
	"math"
	"slices"
	"strings"
	"testing"

	"tariff/api"
)

// holdAll holds Check and Parts of nodes against what is wanted.
func holdAll(t *testing.T, nodes []api.Node) api.Errno {
	t.Helper()
	for at := -2; at < len(nodes)+2; at++ {
		holdParts(t, nodes, at)
	}
	return holdCheck(t, nodes)
}

// P10.1: the chapter's examples, and one of each operation.
func TestCheckExamples(t *testing.T) {
	for _, s := range []string{
		"null", "true", "false", "0", "\"\"", "@\"0001-01-01\"", "a", "a neg:1", "a b +:2", "a b -:2", "a b *:2", "a b /:2", "a b =:2", "a b !=:2", "a b <:2", "a b <=:2", "a b >:2", "a b >=:2", "a b and:2", "a b or:2", "a b c if:3", "a b c between:3",
		"a b is:1 some:1 in:2", "a path:1:b", "call:0:f", "a call:1:f", "1 2 3 4 5 6 7 8 call:8:f", "list:0", "a b list:2", "ctx:0", "a entry:1:a b entry:1:b ctx:2", "a 2 b *:2 +:2",
	} {
		nodes := nodesOf(t, s)
		if e, f := Check(nodes, false), Check(nodes, true); e != api.OK || f != api.ErrForm {
			t.Errorf("%q: %v %v", s, e, f)
		}
		holdAll(t, nodes)
	}
	for _, s := range []string{"any", "a is:1 some:1", "a below:1 some:1", "a atmost:1 some:1", "a above:1 some:1", "a atleast:1 some:1", "a b span:2:[] some:1", "a b span:2:[) some:1", "a b span:2:(] some:1", "a b span:2:() some:1", "a is:1 b is:1 some:2", "a is:1 some:1 not:1"} {
		nodes := nodesOf(t, s)
		if e, f := Check(nodes, true), Check(nodes, false); e != api.OK || f != api.ErrForm {
			t.Errorf("%q: %v %v", s, e, f)
		}
		holdAll(t, nodes)
	}
}

// P10.1: what is not in form.
func TestCheckWrong(t *testing.T) {
	for _, s := range []string{
		"", "1 +:2", "+:2", "1 2", "1 2 3 +:2", "a neg:0", "a neg:2", "a b neg:2", "a b +:1", "a b +:0", "a b c +:3", "a b if:2", "a b c d if:4", "a b between:2", "a path:0:b", "a b path:2:c", "1 2 3 4 5 6 7 8 9 call:9:f", "call:-1:f", "list:-1", "a list:-1", "ctx:-1", "a list:2", "a call:2:f", "a entry:1:a ctx:2",
		"a entry:1:a", "a entry:1:a entry:1:b ctx:1", "a entry:1:a list:1", "a entry:1:a neg:1", "a ctx:1", "a entry:1:a b ctx:2", "a entry:1:a b entry:1:a ctx:2", "a entry:1:a b entry:1:b c entry:1:a ctx:3", "a is:1", "a b span:2:[]", "a is:1 neg:1", "a is:1 list:1", "a is:1 is:1 some:1", "a some:1", "a is:1 b some:2", "some:0", "a is:1 some:1 some:1", "a is:1 some:1 list:1", "a is:1 some:1 neg:1", "a is:1 some:1 is:1 some:1",
		"a b in:2", "a b is:1 in:2", "a is:1 some:1 b in:2", "a is:1 some:1 b is:1 some:1 in:2", "a any in:2", "a b is:1 some:1 not:1 in:2", "any list:1", "any some:1", "any not:1", "any any", "any neg:1", "a is:1 some:1 not:1 not:1", "a is:1 some:1 not:1 some:1", "a not:1", "a is:1 not:1", "not:1", "not:0", "is:1", "a b is:2", "a span:1:[]", "a b c span:3:[]", "a b span:2 some:1", "a b span:2:][ some:1", "a b span:2:[[ some:1", "a b span:2:[ some:1", "a b span:2:{} some:1", "a b span:2:[]) some:1",
		"a path:1", "a path:1:if", "a path:1:1", "call:0", "call:0:not", "call:0:a.b", "a entry:1 ctx:1", "a entry:1:null ctx:1", "null:1", "a null:1", "a any:1", "a true:1", "a b is:1 some:1 or:2", "a is:1 some:1 b or:2", "a is:1 b +:2",
	} {
		nodes := nodesOf(t, s)
		if e, f := Check(nodes, false), Check(nodes, true); e != api.ErrForm || f != api.ErrForm {
			t.Errorf("%q: %v %v", s, e, f)
		}
		holdAll(t, nodes)
	}
	for _, op := range []int{0, -1, 38, 39, 100, 101, 104, math.MaxInt, math.MinInt} {
		for kids := range 4 {
			holdAll(t, []api.Node{{Op: api.ONull}, {Op: api.ONull}, {Op: api.ONull}, {Op: op, Kids: kids}})
			holdAll(t, []api.Node{{Op: op, Kids: kids}, {Op: api.ONeg, Kids: 1}})
		}
	}
	for op := range 40 {
		for _, kids := range []int{-1, 0, 1, 2, 3, 4, 7, 8, 9, 10, 299, 300, 301, math.MaxInt, math.MinInt, -8} {
			nodes := slices.Repeat([]api.Node{{Op: api.ONull}}, 10)
			holdAll(t, append(nodes, api.Node{Op: op, Kids: kids}))
			holdAll(t, []api.Node{{Op: op, Kids: kids, Text: "a"}})
		}
	}
}

// P10.1: each field of each operation.
func TestCheckFields(t *testing.T) {
	fields := []api.Node{{}, {Text: "a"}, {Text: ""}, {Text: "if"}, {Text: "a b"}, {Text: "1"}, {Text: "[]"}, {Text: "[)"}, {Text: "(]"}, {Text: "()"}, {Text: "]["}, {Text: "\xff"}, {Text: "\x00"}, {Text: "é"}, {Text: strings.Repeat("a", 64)}, {Text: strings.Repeat("a", 65)}, {Text: strings.Repeat("a", 1000)}, {Text: strings.Repeat("é", 500)}, {Text: strings.Repeat("a", 1001)}, {Text: strings.Repeat("é", 501)},
		{Day: 1}, {Day: -1}, {Day: 3652059}, {Day: 3652060}, {Day: math.MaxInt}, {Day: math.MinInt}, {Num: api.Dec{Coef: api.Wide{Lo: 1}}}, {Num: api.Dec{Neg: true}}, {Num: api.Dec{Neg: true, Coef: api.Wide{Lo: 1}}}, {Num: api.Dec{Scale: 1}}, {Num: api.Dec{Coef: api.Wide{Lo: 10}, Scale: 1}}, {Num: api.Dec{Coef: api.Wide{Lo: 1}, Scale: 18}}, {Num: api.Dec{Coef: api.Wide{Lo: 1}, Scale: 19}}, {Num: api.Dec{Coef: api.Wide{Hi: 1 << 63}}}, {Num: api.Dec{Scale: -1}},
		{Text: "a", Day: 1}, {Text: "a", Num: api.Dec{Coef: api.Wide{Hi: 1}}}, {Day: 1, Num: api.Dec{Coef: api.Wide{Lo: 1}}}}
	seen := map[api.Errno]int{}
	for op := api.ONull; op <= api.ONot; op++ {
		for _, f := range fields {
			n := f
			n.Op, n.Kids = op, shapes[op].least
			seen[holdAll(t, append(plainParts(op), n))]++
			// The same node as a part of others.
			if shapes[op].item == 'E' {
				seen[holdAll(t, append(append(plainParts(op), n), api.Node{Op: api.ONeg, Kids: 1}))]++
			}
			if shapes[op].item == 'T' {
				holdAll(t, append(append(plainParts(op), n), api.Node{Op: api.OSome, Kids: 1}))
			}
			if shapes[op].item == 'N' {
				holdAll(t, append(append(plainParts(op), n), api.Node{Op: api.OCtx, Kids: 1}))
			}
		}
	}
	if seen[api.OK] < 50 || seen[api.ErrForm] < 1000 {
		t.Error(seen)
	}
}

// plainParts is the least parts that an operation may have.
func plainParts(op int) []api.Node {
	var nodes []api.Node
	x := shapes[op]
	for i := range x.least {
		nodes = append(nodes, api.Node{Op: api.ONull})
		switch x.parts[min(i, len(x.parts)-1)] {
		case 'T':
			nodes = append(nodes, api.Node{Op: api.OIs, Kids: 1})
		case 'S':
			nodes = append(nodes, api.Node{Op: api.OIs, Kids: 1}, api.Node{Op: api.OSome, Kids: 1})
		}
	}
	return nodes
}

// P10.1: each operation as each part of each other.
func TestCheckPairs(t *testing.T) {
	seen := map[api.Errno]int{}
	for op := api.ONull; op <= api.ONot; op++ {
		for inner := api.ONull; inner <= api.ONot; inner++ {
			for place := range max(1, shapes[op].least) {
				var nodes []api.Node
				kids := max(1, shapes[op].least)
				for i := range kids {
					part := plainOf(inner)
					if i != place {
						part = plainPart(op, i)
					}
					nodes = append(nodes, part...)
				}
				n := plainNode(op)
				n.Kids = kids
				nodes = append(nodes, n)
				seen[holdAll(t, nodes)]++
				// One more around it tells whether it may be a part.
				seen[holdCheck(t, append(slices.Clone(nodes), api.Node{Op: api.OSome, Kids: 1}))]++
				seen[holdCheck(t, append(slices.Clone(nodes), api.Node{Op: api.OList, Kids: 1}))]++
			}
		}
	}
	if seen[api.OK] < 500 || seen[api.ErrForm] < 1000 {
		t.Error(seen)
	}
}

// plainNode is a node with the fields that its operation uses.
func plainNode(op int) api.Node {
	n := api.Node{Op: op, Kids: shapes[op].least}
	switch shapes[op].field {
	case "name":
		n.Text = "n"
	case "day":
		n.Day = 5
	case "span":
		n.Text = "[)"
	}
	return n
}

// plainOf is a node with the least parts that it may have.
func plainOf(op int) []api.Node {
	return append(plainParts(op), plainNode(op))
}

// plainPart is what the part in a place of an operation may be.
func plainPart(op, place int) []api.Node {
	switch shapes[op].parts[min(place, len(shapes[op].parts)-1)] {
	case 'N':
		return plainOf(api.OEntry)
	case 'T':
		return plainOf(api.OIs)
	case 'S':
		return plainOf(api.OSome)
	}
	return plainOf(api.ONull)
}

// P10.1: the errors in their order, at the limits.
func TestCheckErrors(t *testing.T) {
	nulls := func(n int) []api.Node { return slices.Repeat([]api.Node{{Op: api.ONull}}, n) }
	list := func(n int) []api.Node { return append(nulls(n), api.Node{Op: api.OList, Kids: n}) }
	deep := func(n int) []api.Node {
		return append(nulls(1), slices.Repeat([]api.Node{{Op: api.ONeg, Kids: 1}}, n-1)...)
	}
	join := slices.Concat[[]api.Node]
	text := api.Node{Op: api.OText, Text: strings.Repeat("a", 1000)}
	for i, c := range []struct {
		nodes      []api.Node
		want, also api.Errno // of an expression, of tests
	}{
		{list(299), api.OK, api.ErrForm}, {list(300), api.ErrLong, api.ErrLong}, {nulls(300), api.ErrForm, api.ErrForm}, {nulls(301), api.ErrLong, api.ErrLong}, {make([]api.Node, 300), api.ErrForm, api.ErrForm}, {make([]api.Node, 301), api.ErrLong, api.ErrLong}, {make([]api.Node, 500000), api.ErrLong, api.ErrLong},
		{deep(40), api.OK, api.ErrForm}, {deep(41), api.ErrDeep, api.ErrForm}, {deep(300), api.ErrDeep, api.ErrForm}, {deep(301), api.ErrLong, api.ErrLong}, {append(deep(41), api.Node{Op: api.ONull}), api.ErrForm, api.ErrForm}, {append(deep(41), api.Node{Op: api.ONeg, Kids: 2}), api.ErrForm, api.ErrForm}, {append(deep(41), api.Node{Op: api.ONeg, Kids: 1, Day: 1}), api.ErrForm, api.ErrForm},
		{join(deep(40), list(0), nodesOf(t, "+:2")), api.ErrDeep, api.ErrForm}, {join(list(0), deep(40), nodesOf(t, "+:2")), api.ErrDeep, api.ErrForm}, {join(list(0), deep(39), nodesOf(t, "+:2")), api.OK, api.ErrForm}, {join(deep(39), list(0), nodesOf(t, "+:2")), api.OK, api.ErrForm}, {join(deep(41), nodesOf(t, "a b if:3")), api.ErrDeep, api.ErrForm},
		{join(deep(38), nodesOf(t, "is:1 some:1")), api.ErrForm, api.OK}, {join(deep(39), nodesOf(t, "is:1 some:1")), api.ErrForm, api.ErrDeep}, {join(deep(37), nodesOf(t, "is:1 some:1 not:1")), api.ErrForm, api.OK}, {join(deep(38), nodesOf(t, "is:1 some:1 not:1")), api.ErrForm, api.ErrDeep}, {join(deep(39), nodesOf(t, "is:1")), api.ErrForm, api.ErrForm}, {join(deep(38), nodesOf(t, "entry:1:a ctx:1")), api.OK, api.ErrForm}, {join(deep(39), nodesOf(t, "entry:1:a ctx:1")), api.ErrDeep, api.ErrForm},
		{append(slices.Repeat([]api.Node{text}, 299), api.Node{Op: api.OList, Kids: 299}), api.OK, api.ErrForm}, {nil, api.ErrForm, api.ErrForm}, {[]api.Node{}, api.ErrForm, api.ErrForm},
	} {
		if e, f := Check(c.nodes, false), Check(c.nodes, true); e != c.want || f != c.also {
			t.Errorf("case %d: %v %v, want %v %v", i, e, f, c.want, c.also)
		}
		holdCheck(t, c.nodes)
		holdParts(t, c.nodes, len(c.nodes)-1)
	}
}

// P10.1: Parts: the chapter's example, the errors in their order, and that nothing behind the node is looked at.
func TestParts(t *testing.T) {
	sum := nodesOf(t, "a 2 b *:2 +:2")
	if p, e := Parts(sum, 4); e != api.OK || !slices.Equal(p, []int{0, 3}) {
		t.Error(p, e)
	}
	long := append(slices.Repeat([]api.Node{{Op: api.ONull}}, 299), api.Node{Op: api.OList, Kids: 299})
	for i, c := range []struct {
		nodes []api.Node
		at    int
		want  []int
		e     api.Errno
	}{
		{sum, 0, nil, api.OK}, {sum, 3, []int{1, 2}, api.OK}, {sum, -1, nil, api.ErrArg}, {sum, 5, nil, api.ErrArg}, {sum, math.MaxInt, nil, api.ErrArg}, {sum, math.MinInt, nil, api.ErrArg}, {nil, 0, nil, api.ErrArg}, {make([]api.Node, 301), -1, nil, api.ErrLong}, {make([]api.Node, 301), 0, nil, api.ErrLong}, {make([]api.Node, 300), 0, nil, api.ErrForm}, {make([]api.Node, 300), 300, nil, api.ErrArg},
		{nodesOf(t, "a neg:2"), 0, nil, api.OK}, {nodesOf(t, "a neg:2"), 1, nil, api.ErrForm}, {nodesOf(t, "a neg:2 b"), 2, nil, api.ErrForm}, {nodesOf(t, "a +:2"), 1, nil, api.ErrForm}, {nodesOf(t, "a +:2 b"), 2, nil, api.ErrForm}, {[]api.Node{{}, {Op: api.ONull}}, 1, nil, api.ErrForm}, {[]api.Node{{Op: api.ONull}, {}}, 0, nil, api.OK},
		{nodesOf(t, "a b c"), 2, nil, api.OK}, {nodesOf(t, "a b is:1 any list:4"), 4, nil, api.ErrForm}, {nodesOf(t, "a b is:1 any list:3"), 4, []int{0, 2, 3}, api.OK}, {nodesOf(t, "a entry:1 b not:1 ctx:2"), 4, []int{1, 3}, api.OK}, {[]api.Node{{Op: api.OName, Day: 7}, {Op: api.OPath, Kids: 1}}, 1, []int{0}, api.OK}, {nodesOf(t, "a b list:1"), 2, []int{1}, api.OK}, {nodesOf(t, "a b list:0"), 2, nil, api.OK},
	} {
		if p, e := Parts(c.nodes, c.at); e != c.e || !slices.Equal(p, c.want) {
			t.Errorf("case %d: %v %v, want %v %v", i, p, e, c.want, c.e)
		}
		holdParts(t, c.nodes, c.at)
	}
	if p, e := Parts(long, 299); e != api.OK || len(p) != 299 || p[298] != 298 {
		t.Error(p, e)
	}
}

// P10.1: random nodes, and the same ones with something changed.
func TestCheckRandom(t *testing.T) {
	s := &source{state: 37}
	seen := map[api.Errno]int{}
	for range 20000 {
		item := "EESW"[s.below(4)]
		nodes := s.node(item, s.below(6))
		if len(nodes) > 120 {
			continue
		}
		e := holdCheck(t, nodes)
		seen[e]++
		if (e == api.OK) != (item == 'E') {
			t.Errorf("%s: %v", brief(nodes), e)
		}
		at := s.below(len(nodes))
		holdParts(t, nodes, at)
		changed := slices.Clone(nodes)
		switch s.below(7) {
		case 0:
			changed[at].Op = s.below(39)
		case 1:
			changed[at].Kids += s.below(5) - 2
		case 2:
			changed = append(changed[:at], changed[at+1:]...)
		case 3:
			changed = slices.Insert(changed, at, nodes[s.below(len(nodes))])
		case 4:
			changed[at].Text = s.pick("", "a", "b", "if", "[)", "n0", "n1")
		case 5:
			changed[at].Num.Coef.Lo++
		case 6:
			other := s.below(len(nodes))
			changed[at], changed[other] = changed[other], changed[at]
		}
		seen[holdCheck(t, changed)]++
		holdParts(t, changed, s.below(len(changed)+1))
	}
	if seen[api.OK] < 5000 || seen[api.ErrForm] < 5000 {
		t.Error(seen)
	}
}

// P10.3: nothing is put into the spare room of an argument, and a change to a result changes no other.
func TestCheckNewMemory(t *testing.T) {
	nodes := nodesOf(t, "a 2 b *:2 +:2 null")
	kept := slices.Clone(nodes)
	first, _ := Parts(nodes[:5], 4)
	Check(nodes[:5], false)
	first = append(first, 7, 7)
	for i := range first[:cap(first)] {
		first[:cap(first)][i] = 99
	}
	if second, _ := Parts(nodes[:5], 4); !slices.Equal(second, []int{0, 3}) || !slices.Equal(nodes, kept) {
		t.Error(second, nodes)
	}
}
