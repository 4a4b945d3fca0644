package code

import (
	"math"
	"slices"
	"strings"
	"testing"
	"unsafe"

	"tariff/api"
	"tariff/expr"
)

// P14.1: the chapter's examples, and what each kind of node comes to.
func TestCompileExamples(t *testing.T) {
	for _, c := range [][2]string{
		{"n + 1", "name num add"}, {"if n then 1 else 2", "name unless:4 num jump:5 num"}, {"n in (1, 2)", "name enter num is num is some:2 leave"},
		{"null", "null"}, {"true", "true"}, {"false", "false"}, {"[1, n, []]", "num name list:0 list:3"}, {"{n: 1, m: {}}", "num entry ctx:0 entry::m ctx:2"}, {"n.n", "name path"}, {"-n", "name neg"}, {"n()", "call:0"}, {"n(1, n)", "num name call:2"}, {"n between 1 and n", "name num name between"}, {`@"0001-01-07"`, "date"},
		{"(if n then 1 else 2) + n", "name unless:4 num jump:5 num name add"}, {"n + (if n then 1 else 2)", "name name unless:5 num jump:6 num add"}, {"-(if n then 1 else 2)", "name unless:4 num jump:5 num neg"},
		{"if n then 1 else if n then 2 else n", "name unless:4 num jump:9 name unless:8 num jump:9 name"}, {"if n then if n then 1 else 2 else n", "name unless:8 name unless:6 num jump:7 num jump:9 name"}, {"if if n then 1 else 2 then n else n", "name unless:4 num jump:5 num unless:8 name jump:9 name"}, {"if n + 1 then 1 + 2 else n + 2", "name num add unless:8 num num add jump:11 name num add"},
		{"n in (if n then 1 else 2)", ""}, {"n in ((if n then 1 else 2))", "name enter name unless:6 num jump:7 num is some:1 leave"}, {"(if n then 1 else 2) in (n)", "name unless:4 num jump:5 num enter name is some:1 leave"}, {"if n in (1) then n else 2", "name enter num is some:1 leave unless:9 name jump:10 num"}, {"n in ((n in (1)))", "name enter name enter num is some:1 leave is some:1 leave"}, {"(n in (1)) in (n)", "name enter num is some:1 leave enter name is some:1 leave"}, {"n in (< 1, <= 1, > 1, >= 1, [1..2))", "name enter num below num atmost num above num atleast num num span some:5 leave"},
		{"[if n then 1 else 2, n in (1)]", "name unless:4 num jump:5 num name enter num is some:1 leave list:2"},
	} {
		nodes, e := expr.Parse(c[0])
		if (e != api.OK) != (c[1] == "") {
			t.Fatal(c[0], e)
		}
		if e != api.OK {
			continue
		}
		want := codeOf(t, c[1])
		got, e := Compile(nodes, false)
		if e != api.OK || !slices.Equal(bare(got), bare(want)) {
			t.Errorf("Compile(%q): %s %v, want %s", c[0], brief(got), e, brief(want))
		}
		holdNodes(t, nodes, false)
		holdNodes(t, nodes, true)
	}
	for _, c := range [][2]string{
		{"-", "any"}, {"1", "num is some:1"}, {"not(1)", "num is some:1 not"}, {"1, [n..2)", "num is name num span some:2"}, {"(n in (1))", "name enter num is some:1 leave is some:1"}, {"(if n then 1 else 2), 1", "name unless:4 num jump:5 num is num is some:2"},
	} {
		nodes := testsOf(t, c[0])
		if got, e := Compile(nodes, true); e != api.OK || !slices.Equal(bare(got), bare(codeOf(t, c[1]))) {
			t.Errorf("Compile(%q): %s %v", c[0], brief(got), e)
		}
		holdNodes(t, nodes, true)
		holdNodes(t, nodes, false)
	}
}

// bare is code without the fields that tell numbers and dates.
func bare(code []api.Ins) []api.Ins {
	list := slices.Clone(code)
	for i := range list {
		list[i].Num, list[i].Day = api.Dec{}, 0
	}
	return list
}

// P14.1: an instruction has what its node has.
func TestCompileFields(t *testing.T) {
	for _, n := range []api.Node{{Op: api.ONum, Num: num(t, "2.5")}, {Op: api.OText, Text: "it's"}, {Op: api.OText}, {Op: api.ODate, Day: 738945}, {Op: api.OName, Text: "price"}} {
		nodes := []api.Node{n, {Op: api.OPath, Kids: 1, Text: "p"}, {Op: api.OEntry, Kids: 1, Text: "e"}, {Op: api.OCtx, Kids: 1}, n, {Op: api.OCall, Kids: 2, Text: "f"}}
		want := []api.Ins{{Op: n.Op, Text: n.Text, Num: n.Num, Day: n.Day}, {Op: api.OPath, Text: "p"}, {Op: api.OEntry, Text: "e"}, {Op: api.OCtx, A: 1}, {Op: n.Op, Text: n.Text, Num: n.Num, Day: n.Day}, {Op: api.OCall, A: 2, Text: "f"}}
		if got, e := Compile(nodes, false); e != api.OK || !slices.Equal(got, want) {
			t.Error(got, e)
		}
		if got, e := Back(want, false); e != api.OK || !slices.Equal(got, nodes) {
			t.Error(got, e)
		}
		holdNodes(t, nodes, false)
	}
}

// stretch is a number with so many signs ahead of it.
func stretch(n int) []api.Node {
	return append([]api.Node{{Op: api.ONum}}, slices.Repeat([]api.Node{{Op: api.ONeg, Kids: 1}}, n)...)
}

// listing is a list of so many nulls.
func listing(n int) []api.Node {
	return append(slices.Repeat([]api.Node{{Op: api.ONull}}, n), api.Node{Op: api.OList, Kids: n})
}

// P1, P14.1: the errors of Compile are those of expr.Check.
func TestCompileErrors(t *testing.T) {
	for i, c := range []struct {
		nodes      []api.Node
		want, also api.Errno // of an expression, of tests
	}{
		{nil, api.ErrForm, api.ErrForm}, {[]api.Node{}, api.ErrForm, api.ErrForm}, {make([]api.Node, 300), api.ErrForm, api.ErrForm}, {make([]api.Node, 301), api.ErrLong, api.ErrLong}, {make([]api.Node, 100000), api.ErrLong, api.ErrLong}, {listing(299), api.OK, api.ErrForm}, {listing(300), api.ErrLong, api.ErrLong}, {stretch(39), api.OK, api.ErrForm}, {stretch(40), api.ErrDeep, api.ErrForm}, {stretch(299), api.ErrDeep, api.ErrForm}, {stretch(300), api.ErrLong, api.ErrLong},
		{[]api.Node{{Op: api.OIf, Kids: 3}}, api.ErrForm, api.ErrForm}, {[]api.Node{{Op: api.ONull}, {Op: api.OIf, Kids: 1}}, api.ErrForm, api.ErrForm}, {[]api.Node{{Op: api.ONull}, {Op: api.ONull}, {Op: api.OIn, Kids: 2}}, api.ErrForm, api.ErrForm}, {[]api.Node{{Op: 101}}, api.ErrForm, api.ErrForm}, {[]api.Node{{Op: api.ONull}, {Op: 103}}, api.ErrForm, api.ErrForm}, {[]api.Node{{Op: api.OList, Kids: math.MaxInt}}, api.ErrForm, api.ErrForm}, {[]api.Node{{Op: api.OList, Kids: math.MinInt}}, api.ErrForm, api.ErrForm}, {[]api.Node{{Op: api.OAny}}, api.ErrForm, api.OK}, {[]api.Node{{Op: api.ONull}, {Op: api.OIs, Kids: 1}}, api.ErrForm, api.ErrForm},
	} {
		for k, want := range []api.Errno{c.want, c.also} {
			if got, e := Compile(c.nodes, k == 1); e != want || e != api.OK && len(got) != 0 {
				t.Errorf("case %d, tests %v: %s %v, want %v", i, k == 1, brief(got), e, want)
			}
			holdNodes(t, c.nodes, k == 1)
		}
	}
}

// P14.1: random nodes, and the same ones with something changed.
func TestCompileRandom(t *testing.T) {
	s := &source{state: 91}
	seen := map[api.Errno]int{}
	longest := 0
	for range 6000 {
		nodes, tests := s.whole(s.below(7))
		longest = max(longest, len(nodes))
		seen[holdNodes(t, nodes, tests)]++
		seen[holdNodes(t, nodes, !tests)]++
		at, other := s.below(len(nodes)), s.below(len(nodes))
		switch s.below(5) {
		case 0:
			nodes[at].Op = s.below(39)
		case 1:
			nodes[at].Kids += s.below(3) - 1
		case 2:
			nodes = append(nodes[:at], nodes[at+1:]...)
		case 3:
			nodes = slices.Insert(nodes, at, nodes[other])
		case 4:
			nodes[at], nodes[other] = nodes[other], nodes[at]
		}
		seen[holdNodes(t, nodes, tests)]++
	}
	if seen[api.OK] < 6000 || seen[api.ErrForm] < 6000 || longest < 150 {
		t.Error(seen, longest)
	}
}

// P14.2: the chapter's examples, and the edges of what is sound.
func TestVerifyExamples(t *testing.T) {
	const wrong = -1
	for _, c := range []struct {
		s          string
		want, also int // the height, and that with tests
	}{
		{"name num add", 2, 2}, {"name unless:4 num jump:5 num", 1, 1}, {"name enter num is num is some:2 leave", 2, 2}, {"jump:0", wrong, wrong}, {"null null", wrong, wrong}, {"true unless:3 null", wrong, wrong}, {"num is", wrong, 1}, {"true null jump:4 add", wrong, wrong},
		{"", wrong, wrong}, {"null", 1, 1}, {"any", 1, 1}, {"null null null list:3", 3, 3}, {"null null null list:2", wrong, wrong}, {"null null null list:4", wrong, wrong}, {"list:0", 1, 1}, {"ctx:0", 1, 1}, {"call:0", 1, 1}, {"some:0", wrong, wrong}, {"null some:1", 1, 1}, {"list:-1", wrong, wrong}, {"ctx:-1", wrong, wrong}, {"call:-1", wrong, wrong}, {"some:-1", wrong, wrong}, {"null null list:2 list:1 list:1", 2, 2}, {"add", wrong, wrong}, {"null add", wrong, wrong}, {"null null between", wrong, wrong}, {"null null null between", 3, 3}, {"neg", wrong, wrong},
		{"null null null null null null null null call:8", 8, 8}, {"null null null null null null null null null call:9", wrong, wrong}, {"null null null null null null null null null list:9", 9, 9}, {"null null null null null null null null null ctx:9", 9, 9}, {"null null null null null null null null null some:9", 9, 9},
		{"if", wrong, wrong}, {"null null null if", wrong, wrong}, {"null null in", wrong, wrong}, {"null:1", wrong, wrong}, {"null neg:1", wrong, wrong}, {"null null add:2", wrong, wrong}, {"any:1", wrong, wrong}, {"null not", 1, 1}, {"null path", 1, 1}, {"null entry", 1, 1},
		{"null enter null", wrong, wrong}, {"null enter null leave", 1, 1}, {"null enter:1 null leave", wrong, wrong}, {"null enter null leave:1", wrong, wrong}, {"null leave", wrong, wrong}, {"leave null", wrong, wrong}, {"null leave null enter", wrong, 2}, {"null null leave enter", wrong, 2}, {"enter null leave", wrong, wrong}, {"null null enter leave leave", wrong, wrong}, {"null null leave leave enter enter", wrong, wrong}, {"null null null leave enter leave enter", wrong, 3}, {"null leave null null is enter", wrong, wrong}, {"null null enter enter null leave leave", 2, 2}, {"null enter null null span leave", 2, 2}, {"null null span", wrong, 2}, {"null below", wrong, 1}, {"null atmost", wrong, 1}, {"null above", wrong, 1}, {"null atleast", wrong, 1}, {"null enter null is leave is", wrong, 1}, {"null enter leave null is", wrong, 1}, {"null null is list:2", wrong, 2},
		{"null jump:2", 1, 1}, {"null jump:3", wrong, wrong}, {"jump:1 null", 1, 1}, {"jump:1 jump:2 null", 1, 1}, {"null jump:1", wrong, wrong}, {"null jump:-1", wrong, wrong}, {"jump:2 null null", wrong, wrong}, {"null null unless:3", 2, 2}, {"null unless:2 null", 1, 1}, {"null unless:1 null", wrong, wrong}, {"null unless:0 null", wrong, wrong}, {"null unless:3 null", wrong, wrong}, {"null unless:4 null", wrong, wrong}, {"null unless:5 null jump:4 null", wrong, wrong}, {"null unless:4 null jump:5 null", 1, 1}, {"null unless:4 null jump:6 null", wrong, wrong}, {"unless:1 null", wrong, wrong}, {"null null unless:4 neg", 2, 2}, {"null null unless:4 null", wrong, wrong}, {"null null unless:4 enter null leave", wrong, wrong}, {"null null unless:5 enter null leave", wrong, wrong}, {"null null unless:7 enter null leave neg", 2, 2}, {"null null unless:4 enter", wrong, wrong}, {"null unless:5 null null jump:7 null null add", 2, 2}, {"null unless:4 null jump:4 jump:6 null null", wrong, wrong}, {"null null unless:6 null null between neg", 3, 3}, {"null null unless:6 null null add neg", wrong, wrong}, {"null unless:6 null null add jump:7 null", 2, 2}, {"null unless:4 null jump:7 null null add", 2, 2}, {"null unless:4 null jump:8 null null null list:3", 3, 3},
	} {
		list := codeOf(t, c.s)
		for k, want := range []int{c.want, c.also} {
			e := api.OK
			if want == wrong {
				want, e = 0, api.ErrForm
			}
			if got, f := Verify(list, k == 1); got != want || f != e {
				t.Errorf("Verify(%q, %v): %v %v, want %v %v", c.s, k == 1, got, f, want, e)
			}
		}
		holdCode(t, list)
	}
}

// P14.2: each instruction with as much on the stack, and as many tests around it, as it needs or less.
func TestVerifyEach(t *testing.T) {
	seen := map[api.Errno]int{}
	for _, op := range []int{math.MinInt, -1, 0, 1, 2, 3, 4, 5, 6, 7, 8, 9, 10, 11, 12, 13, 14, 15, 16, 17, 18, 19, 20, 21, 22, 23, 24, 25, 26, 27, 28, 29, 30, 31, 32, 33, 34, 35, 36, 37, 38, 39, 99, 100, 101, 102, 103, 104, 105, 1001, math.MaxInt} {
		for _, a := range []int{math.MinInt, -1, 0, 1, 2, 3, 4, 5, 6, 7, 8, 9, 10, 11, 12, 300, math.MaxInt} {
			for height := range 11 {
				list := append(slices.Repeat([]api.Ins{{Op: api.ONull}}, height), api.Ins{Op: op, A: a})
				// Whatever the instruction leaves is taken up again, in several ways.
				for rest := range 4 {
					for _, more := range [][]api.Ins{nil, {{Op: api.OList, A: height - rest + 1}}, {{Op: api.ONull}, {Op: api.OList, A: height - rest + 2}}, {{Op: api.OList, A: height - rest + 1}, {Op: 104}}} {
						verified, _ := holdCode(t, append(slices.Clone(list), more...))
						seen[api.OK] += verified[api.OK]
						seen[api.ErrForm] += verified[api.ErrForm]
					}
				}
			}
		}
	}
	if seen[api.OK] < 1000 || seen[api.ErrForm] < 10000 {
		t.Error(seen)
	}
}

// all hands every row of at most so many of the instructions to a check.
func all(pieces []api.Ins, most int, row []api.Ins, check func(list []api.Ins)) {
	check(row)
	if most == 0 {
		return
	}
	for _, p := range pieces {
		all(pieces, most-1, append(slices.Clip(row), p), check)
	}
}

// P14.2, P14.3: each short row of the instructions that matter to a rule.
func TestShortCode(t *testing.T) {
	verified, backed := map[api.Errno]int{}, map[api.Errno]int{}
	check := func(list []api.Ins) {
		v, b := holdCode(t, list)
		for e, n := range v {
			verified[e] += n
		}
		for e, n := range b {
			backed[e] += n
		}
	}
	for _, c := range []struct {
		s    string
		most int
	}{
		{"null neg add unless:2 unless:3 unless:4 jump:2 jump:3 jump:4", 4},
		{"null neg unless:3 unless:4 jump:4 jump:5", 5},
		{"null unless:4 unless:8 jump:5", 5},
		{"null is span some:1 some:2 not any enter leave", 4},
		{"null is some:1 enter leave", 6},
		{"null list:0 list:1 list:2 ctx:0 ctx:1 ctx:2 entry call:1 path", 3},
		{"name entry::a entry::b ctx:1 ctx:2", 5},
		{"null enter leave unless:3 unless:4 jump:4", 5},
	} {
		all(codeOf(t, c.s), c.most, nil, check)
	}
	if verified[api.OK] < 800 || verified[api.ErrForm] < 50000 || backed[api.OK] < 80 || backed[api.ErrForm] < 50000 {
		t.Error(verified, backed)
	}
}

// P14.2, P14.3: the code of random nodes with something changed.
func TestChangedCode(t *testing.T) {
	s := &source{state: 92}
	verified, backed := map[api.Errno]int{}, map[api.Errno]int{}
	for range 25000 {
		nodes, tests := s.whole(s.below(5))
		list, e := Compile(nodes, tests)
		if e != api.OK {
			t.Fatal(e)
		}
		for range 1 + s.below(2) {
			list = s.change(list)
		}
		v, b := holdCode(t, list)
		for e, n := range v {
			verified[e] += n
		}
		for e, n := range b {
			backed[e] += n
		}
	}
	if verified[api.OK] < 10000 || verified[api.ErrForm] < 15000 || backed[api.OK] < 1500 || backed[api.ErrForm] < 20000 {
		t.Error(verified, backed)
	}
}

// change is code with one thing changed.
func (s *source) change(list []api.Ins) []api.Ins {
	if len(list) == 0 {
		return []api.Ins{{Op: api.ONull}}
	}
	at, other := s.below(len(list)), s.below(len(list))
	switch s.below(10) {
	case 0:
		list[at].Op = s.below(39)
	case 1:
		list[at].Op = 100 + s.below(6)
	case 2:
		list[at].A += s.below(3) - 1
	case 3:
		list = append(list[:at], list[at+1:]...)
	case 4:
		list = slices.Insert(list, at, list[other])
	case 5:
		list[at], list[other] = list[other], list[at]
	case 6:
		list[at].Text = s.pick("", "a", "[]", "if")
	case 7:
		list[at].Day++
	case 8:
		list[at].Num.Coef.Lo++
	case 9:
		// A jump that leads on to the next one leads to the same place.
		for i := range list {
			if list[i].Op > 100 && list[i].A > i && list[i].A < len(list) && list[list[i].A].Op == 101 {
				list[i].A = list[list[i].A].A
				break
			}
		}
	}
	return list
}

// P1, P14.2, P14.3: the errors in their order, at the limits.
func TestCodeErrors(t *testing.T) {
	nulls := func(n int) []api.Ins { return slices.Repeat([]api.Ins{{Op: api.ONull}}, n) }
	list := func(n int) []api.Ins { return append(nulls(n), api.Ins{Op: api.OList, A: n}) }
	negs := func(n int) []api.Ins { return append(nulls(1), slices.Repeat([]api.Ins{{Op: api.ONeg}}, n)...) }
	for i, c := range []struct {
		code   []api.Ins
		height int
		verify api.Errno
		back   api.Errno
	}{
		{nil, 0, api.ErrForm, api.ErrForm}, {list(599), 599, api.OK, api.ErrForm}, {list(600), 0, api.ErrLong, api.ErrLong}, {nulls(600), 0, api.ErrForm, api.ErrForm}, {nulls(601), 0, api.ErrLong, api.ErrLong}, {make([]api.Ins, 600), 0, api.ErrForm, api.ErrForm}, {make([]api.Ins, 601), 0, api.ErrLong, api.ErrLong}, {make([]api.Ins, 300000), 0, api.ErrLong, api.ErrLong}, {list(299), 299, api.OK, api.OK}, {list(300), 300, api.OK, api.ErrForm},
		{negs(39), 1, api.OK, api.OK}, {negs(40), 1, api.OK, api.ErrForm}, {negs(599), 1, api.OK, api.ErrForm}, {negs(600), 0, api.ErrLong, api.ErrLong}, {append(list(0), negs(40)...), 0, api.ErrForm, api.ErrForm}, {slices.Repeat([]api.Ins{{Op: 101, A: 600}}, 600), 0, api.ErrForm, api.ErrForm}, {slices.Repeat([]api.Ins{{Op: 102, A: 600}}, 600), 0, api.ErrForm, api.ErrForm},
	} {
		if h, e := Verify(c.code, false); h != c.height || e != c.verify {
			t.Errorf("case %d: %v %v", i, h, e)
		}
		if l, e := Back(c.code, false); e != c.back || e != api.OK && len(l) != 0 {
			t.Errorf("case %d: %s %v", i, brief(l), e)
		}
		holdCode(t, c.code)
	}
}

// P14.3: what sound code may be that no nodes have.
func TestBackExamples(t *testing.T) {
	for _, c := range []struct {
		s     string
		tests bool
		want  string // the nodes' text, or nothing
	}{
		{"name num add", false, "n + 0"}, {"name unless:4 num jump:5 num", false, "if n then 0 else 0"}, {"name enter num is num is some:2 leave", false, "n in (0, 0)"}, {"num is", true, ""}, {"num is some:1", true, "0"}, {"num is some:1", false, ""}, {"any", true, "-"}, {"any", false, ""}, {"num is some:1 not", true, "not(0)"}, {"null", true, ""},
		{"null jump:2", false, ""}, {"jump:1 null", false, ""}, {"null unless:2 null", false, ""}, {"null null unless:3", false, ""}, {"null null unless:4 neg", false, ""}, {"null enter null leave", false, ""}, {"null leave null enter", true, ""}, {"null entry", false, ""}, {"null not", true, ""}, {"null some:1", true, ""}, {"name entry::a name entry::a ctx:2", false, ""}, {"name entry::a name entry::b ctx:2", false, "{a: n, b: n}"}, {"name:0:if", false, ""}, {"text:0:if", false, `"if"`}, {"null:0:a", false, ""}, {"call:0:f", false, "f()"}, {"null null span:0:]] some:1", true, ""}, {"null null span:0:(] some:1", true, "(null..null]"},
		{"name unless:4 num jump:9 name unless:8 num jump:9 name", false, "if n then 0 else if n then 0 else n"}, {"name unless:8 name unless:6 num jump:7 num jump:9 name", false, "if n then if n then 0 else 0 else n"}, {"name unless:8 name unless:6 num jump:9 num jump:9 name", false, ""}, {"name unless:4:x num jump:5 num", false, ""}, {"name unless:4 num jump:5:x num", false, ""}, {"name enter:0:x num is some:1 leave", false, ""}, {"name enter num is some:1 leave:0:x", false, ""}, {"name enter num is some:1 not leave", false, ""}, {"name enter any leave", false, ""}, {"name unless:4 num jump:5 num num add", false, "(if n then 0 else 0) + 0"}, {"name unless:4 num jump:7 num num add", false, "if n then 0 else 0 + 0"}, {"name unless:4 num jump:8 num num add jump:8", false, ""},
	} {
		want := []api.Node{}
		e := api.ErrForm
		if c.want != "" {
			e = api.OK
			want = parseEither(t, c.want, c.tests)
		}
		if got, f := Back(codeOf(t, c.s), c.tests); f != e || !slices.Equal(got, want) {
			t.Errorf("Back(%q, %v): %s %v, want %s", c.s, c.tests, brief(got), f, c.want)
		}
		holdCode(t, codeOf(t, c.s))
	}
}

// parseEither is the nodes of an expression, or of tests.
func parseEither(t *testing.T, s string, tests bool) []api.Node {
	t.Helper()
	if tests {
		return testsOf(t, s)
	}
	return parse(t, s)
}

// P14.1, P14.3: each field of each instruction must be as its node has it.
func TestBackFields(t *testing.T) {
	for _, whole := range []string{"if a in (1, [2..3)) then {p: f(1, \"t\"), q: -a.b} else [@\"2024-02-29\", null]", "a between 1 and (if b then 2 else 3)"} {
		list, _ := Compile(parse(t, whole), false)
		for i := range list {
			for _, change := range []func(ins *api.Ins){
				func(ins *api.Ins) { ins.A++ }, func(ins *api.Ins) { ins.A-- }, func(ins *api.Ins) { ins.Text += "x" }, func(ins *api.Ins) { ins.Text = "" }, func(ins *api.Ins) { ins.Day++ }, func(ins *api.Ins) { ins.Day = 0 }, func(ins *api.Ins) { ins.Num = num(t, "9") }, func(ins *api.Ins) { ins.Num.Neg = true }, func(ins *api.Ins) { ins.Num.Scale = 1 }, func(ins *api.Ins) { ins.Op++ }, func(ins *api.Ins) { ins.Op = 0 },
			} {
				other := slices.Clone(list)
				change(&other[i])
				holdCode(t, other)
			}
		}
	}
}

// P14.4: nothing is put into the spare room of an argument; a result shares no memory with an argument,
// nor with another result.
func TestNewMemory(t *testing.T) {
	long := strings.Repeat("long ", 5)
	nodes := append(parse(t, "if price in (\""+long+"\") then {entry: f(price.part)} else [1]"), api.Node{Op: api.OAny}, api.Node{Op: api.OAny})
	kept := slices.Clone(nodes)
	some := nodes[:len(nodes)-2]
	first, _ := Compile(some, false)
	second, _ := Compile(some, false)
	for i, ins := range first {
		for _, n := range some {
			if n.Text != "" && unsafe.StringData(n.Text) == unsafe.StringData(ins.Text) {
				t.Errorf("instruction %d shares the memory of %q", i, n.Text)
			}
		}
	}
	code := append(slices.Clone(second), api.Ins{Op: 7}, api.Ins{Op: 7})
	keptCode := slices.Clone(code)
	nodesBack, _ := Back(code[:len(second)], false)
	again, _ := Back(code[:len(second)], false)
	Verify(code[:len(second)], false)
	for i, n := range nodesBack {
		for _, ins := range code {
			if ins.Text != "" && unsafe.StringData(n.Text) == unsafe.StringData(ins.Text) {
				t.Errorf("node %d shares the memory of %q", i, ins.Text)
			}
		}
	}
	spoil(first, api.Ins{Op: 99})
	spoil(nodesBack, api.Node{Op: 99})
	third, _ := Compile(some, false)
	last, _ := Back(code[:len(second)], false)
	if !slices.Equal(second, third) || !slices.Equal(again, some) || !slices.Equal(last, some) || !slices.Equal(nodes, kept) || !slices.Equal(code, keptCode) {
		t.Error(second, third, again, last)
	}
}

// spoil writes over a list, and over its spare room.
func spoil[T any](list []T, with T) {
	list = append(list, with, with)
	for i := range list[:cap(list)] {
		list[:cap(list)][i] = with
	}
}
