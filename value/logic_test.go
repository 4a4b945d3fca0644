package value

import (
	"reflect"
	"strconv"
	"testing"

	"tariff/api"
)

// P7.2: all pairs of values of every kind.
func TestLogicOfPairs(t *testing.T) {
	count := map[int]int{}
	for _, a := range pool() {
		for _, b := range pool() {
			got, e := Equal(a, b)
			holdTo(t, "Equal", a, b, got, e, wantEqual(a, b), api.OK)
			count[three(got)]++
			got, e = Less(a, b)
			holdTo(t, "Less", a, b, got, e, wantLess(a, b), api.OK)
			got, e = And(a, b)
			holdTo(t, "And", a, b, got, e, ofThree(min(three(a), three(b))), api.OK)
			got, e = Or(a, b)
			holdTo(t, "Or", a, b, got, e, ofThree(max(three(a), three(b))), api.OK)
		}
		got, e := Not(a)
		holdTo(t, "Not", a, null, got, e, ofThree(2-three(a)), api.OK)
	}
	if count[0] < 1000 || count[1] < 1000 || count[2] < 100 {
		t.Error(count)
	}
}

// P7.2: the chapter's examples, and verdicts that are hidden below others.
func TestEqualExamples(t *testing.T) {
	one, two, x := num(1, 0), num(2, 0), text("x")
	for _, c := range []struct{ a, b, want api.Value }{
		{one, text("1"), null}, {null, one, no}, {one, null, no}, {null, null, yes}, {null, list(), no}, {list(), ctx(""), null}, {yes, one, null}, {num(15, 1), num(15, 1), yes}, {num(15, 1), num(-15, 1), no}, {num(1, 0), num(1, 1), no},
		{list(one, two), list(one, num(3, 0)), no}, {list(one, two), list(one, x), null}, {list(one, two), list(num(3, 0), x), no}, {list(one, two), list(x, num(3, 0)), no}, {list(one, x), list(one, x, one), no}, {list(x), list(), no}, {list(), list(), yes},
		{list(null), list(null), yes}, {list(null), list(one), no}, {list(null, one), list(x, x), no}, {list(list(one)), list(list(x)), null}, {list(list(one), two), list(list(x), one), no}, {list(list(one)), list(one), null},
		{ctx("a b", one, two), ctx("b a", two, one), yes}, {ctx("a b", one, two), ctx("b a", one, two), no}, {ctx("a", one), ctx("b", one), no}, {ctx("a", one), ctx("a b", one, two), no}, {ctx("a b", one, two), ctx("a", one), no}, {ctx("a", one), ctx("a", x), null},
		{ctx("a b", one, two), ctx("a c", x, two), no}, {ctx("a b", one, two), ctx("c a", two, x), no}, {ctx("a b", one, two), ctx("b a", one, x), no}, {ctx("a b", one, two), ctx("b a", two, x), null}, {ctx(""), ctx(""), yes}, {ctx("a", ctx("b", one)), ctx("a", ctx("b", x)), null},
		{ctx("a", null), ctx("a", one), no}, {ctx("a", null), ctx("", []api.Value{}...), no}, {text("a"), text("A"), no}, {text("é"), text("e\u0301"), no}, {day(5), day(5), yes}, {day(5), num(5, 0), null},
	} {
		got, e := Equal(c.a, c.b)
		holdTo(t, "Equal", c.a, c.b, got, e, c.want, api.OK)
		got, e = Equal(c.b, c.a)
		holdTo(t, "Equal", c.b, c.a, got, e, c.want, api.OK)
	}
}

// P7.2: contexts with as many entries as one may have, in other orders.
func TestEqualOfWideContexts(t *testing.T) {
	a, b := ctx(""), ctx("")
	for i := range 999 {
		a.Names, a.List = append(a.Names, "n"+strconv.Itoa(i)), append(a.List, num(int64(i), 0))
		b.Names, b.List = append(b.Names, "n"+strconv.Itoa(998-i)), append(b.List, num(int64(998-i), 0))
	}
	got, e := Equal(a, b)
	holdTo(t, "Equal", null, null, got, e, yes, api.OK)
	b.List[500] = yes
	got, e = Equal(a, b)
	holdTo(t, "Equal", null, null, got, e, null, api.OK)
	b.Names[3] = "other"
	got, e = Equal(a, b)
	holdTo(t, "Equal", null, null, got, e, no, api.OK)
}

// P7.2: the chapter's examples, and the orders of texts, numbers and dates.
func TestLessExamples(t *testing.T) {
	for _, c := range []struct{ a, b, want api.Value }{
		{text("ab"), text("abc"), yes}, {text("abc"), text("ab"), no}, {text(""), text(""), no}, {text("Z"), text("a"), yes}, {text("a"), text("\ufffd"), yes}, {text("\U00010000"), text("\ufffd"), no}, {yes, no, null}, {no, yes, null}, {null, num(1, 0), null},
		{null, null, null}, {num(1, 0), text("2"), null}, {num(-2, 0), num(-15, 1), yes}, {num(2, 0), num(15, 1), no}, {num(10, 0), num(9, 0), no}, {num(1, 18), num(0, 0), no}, {num(1, 0), num(1, 0), no}, {day(1), day(2), yes}, {day(10), day(9), no}, {day(1), num(2, 0), null},
		{list(num(1, 0)), list(num(2, 0)), null}, {ctx(""), ctx("a", null), null},
	} {
		got, e := Less(c.a, c.b)
		holdTo(t, "Less", c.a, c.b, got, e, c.want, api.OK)
	}
}

// P7.2: the tables of And, Or and Not; what is no boolean counts as null.
func TestTruthTables(t *testing.T) {
	for _, c := range []struct{ a, b, and, or api.Value }{
		{yes, yes, yes, yes}, {yes, no, no, yes}, {yes, null, null, yes}, {no, yes, no, yes}, {no, no, no, no}, {no, null, no, null}, {null, yes, null, yes}, {null, no, no, null}, {null, null, null, null},
		{yes, num(5, 0), null, yes}, {text("false"), no, no, null}, {list(yes), yes, null, yes}, {ctx("a", no), list(no), null, null},
	} {
		got, e := And(c.a, c.b)
		holdTo(t, "And", c.a, c.b, got, e, c.and, api.OK)
		got, e = Or(c.a, c.b)
		holdTo(t, "Or", c.a, c.b, got, e, c.or, api.OK)
	}
	for _, c := range [][2]api.Value{{yes, no}, {no, yes}, {null, null}, {num(0, 0), null}, {list(yes), null}} {
		got, e := Not(c[0])
		holdTo(t, "Not", c[0], null, got, e, c[1], api.OK)
	}
}

// P1, P7.2, P7.3: the error of the first argument, or else that of the second, and nothing beside it.
func TestErrors(t *testing.T) {
	calls := map[string]func(a, b api.Value) (api.Value, api.Errno){"Equal": Equal, "Less": Less, "And": And, "Or": Or}
	all := unformed()
	all[api.OK] = []api.Value{null, yes, no, list(num(1, 0))}
	for e, l := range all {
		for f, m := range all {
			want := e
			if e == api.OK {
				want = f
			}
			for _, a := range l {
				for _, b := range m {
					for name, call := range calls {
						if got, told := call(a, b); told != want || told != api.OK && !reflect.DeepEqual(got, api.Value{}) {
							t.Errorf("%s(%.50v, %.50v): %v %v, want %v", name, a, b, got, told, want)
						}
					}
				}
			}
		}
		for _, a := range l {
			if got, told := Not(a); told != e || told != api.OK && !reflect.DeepEqual(got, api.Value{}) {
				t.Errorf("Not(%.50v): %v %v, want %v", a, got, told, e)
			}
			if got, told := Print(a); told != e || told != api.OK && got != "" {
				t.Errorf("Print(%.50v): %v %v, want %v", a, got, told, e)
			}
		}
	}
}

// spaced is a value of which each slice has more capacity than it needs, filled with something.
func spaced(v api.Value) api.Value {
	items, names := make([]api.Value, 0, len(v.List)+3), make([]string, 0, len(v.Names)+3)
	for _, w := range v.List {
		items = append(items, spaced(w))
	}
	v.List = append(items, text("spare"), text("spare"))[:len(items)]
	names = append(names, v.Names...)
	v.Names = append(names, "spare", "spare")[:len(names)]
	return v
}

// unspoilt tells whether a value is what spaced made of another, with what is behind its ends.
func unspoilt(v, of api.Value) bool {
	k, n := len(v.List), len(v.Names)
	if !reflect.DeepEqual(v.List[:k+2][k:], []api.Value{text("spare"), text("spare")}) || !reflect.DeepEqual(v.Names[:n+2][n:], []string{"spare", "spare"}) {
		return false
	}
	for i, w := range v.List {
		if !unspoilt(w, of.List[i]) {
			return false
		}
	}
	return reflect.DeepEqual(copied(v), copied(of))
}

// P7.4: arguments are not changed, nor what is behind their ends.
func TestArgumentsStay(t *testing.T) {
	l := pool()
	for i, of := range l {
		other := l[(i*7+3)%len(l)]
		a, b := spaced(of), spaced(other)
		Check(a)
		Same(a, a)
		Print(a)
		Not(a)
		for _, call := range []func(a, b api.Value) (api.Value, api.Errno){Equal, Less, And, Or} {
			call(a, b)
			call(b, a)
			call(a, a)
		}
		if !unspoilt(a, of) || !unspoilt(b, other) {
			t.Errorf("changed: %v %v", of, other)
		}
	}
}
