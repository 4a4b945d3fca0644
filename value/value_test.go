package value

import (
	"math"
	"reflect"
	"strconv"
	"strings"
	"testing"

	"tariff/api"
)

// holdCheck holds Check against what is wanted: of the value, and of values that it is within.
func holdCheck(t *testing.T, v api.Value) api.Errno {
	t.Helper()
	for _, w := range []api.Value{list(v), list(null, v), list(v, null), ctx("a b", yes, v), list(ctx("a", v)), list(v, api.Value{Kind: 8}), v} {
		if e, want := Check(w), wantCheck(w); e != want {
			t.Errorf("Check(%.200v): %v, want %v", w, e, want)
		}
		if Same(w, w) != (wantCheck(w) == api.OK) {
			t.Errorf("Same(%.200v) with itself", w)
		}
	}
	return Check(v)
}

// P7.1: Check of every kind with every choice of fields.
func TestCheckFields(t *testing.T) {
	count := map[api.Errno]int{}
	for _, kind := range []int{math.MinInt, -1, 0, 1, 2, 3, 4, 5, 6, 7, math.MaxInt} {
		for set := range 128 {
			v := api.Value{Kind: kind, Yes: set&1 > 0}
			if set&2 > 0 {
				v.Num.Coef.Lo = 1
			}
			if set&4 > 0 {
				v.Text = "x"
			}
			if set&8 > 0 {
				v.Day = 1
			}
			if set&16 > 0 {
				v.List = []api.Value{null}
			}
			if set&32 > 0 {
				v.Names = []string{"a"}
			}
			if set&64 > 0 && set&16 == 0 {
				v.List = []api.Value{}
			}
			if set&64 > 0 && set&32 == 0 {
				v.Names = []string{}
			}
			count[holdCheck(t, v)]++
		}
	}
	// Half of the choices tell nil from empty, but where both lists have something. Null has one
	// choice of the fields that it may use, 1 of 0 days is none, a list and a context have two.
	if count[api.OK] != 2*(1+2+2+2+1+2+2) {
		t.Error(count)
	}
}

// P7.1: what the fields may hold, to the edges.
func TestCheckEdges(t *testing.T) {
	for _, n := range []int{math.MinInt, -1, 0, 3652060, math.MaxInt} {
		if e := holdCheck(t, day(n)); e != api.ErrForm {
			t.Error(n, e)
		}
	}
	for _, n := range []int{1, 2, 3652058, 3652059} {
		if e := holdCheck(t, day(n)); e != api.OK {
			t.Error(n, e)
		}
	}
	for _, d := range []api.Dec{{Neg: true}, {Scale: 1}, {Coef: api.Wide{Lo: 10}, Scale: 1}, {Scale: -1, Coef: api.Wide{Lo: 1}}, {Scale: 19, Coef: api.Wide{Lo: 1}}, {Coef: api.Wide{Hi: 542101086242752, Lo: 4003012203950112768}}} {
		if e := holdCheck(t, api.Value{Kind: api.Num, Num: d}); e != api.ErrForm {
			t.Error(d, e)
		}
		// The sign of no number is a field that is not zero, too.
		if e := holdCheck(t, api.Value{Kind: api.Text, Num: d}); e != api.ErrForm {
			t.Error(d, e)
		}
	}
	for s, want := range map[string]api.Errno{"": api.OK, "\t\n\r é\ufffd\U0010ffff": api.OK, strings.Repeat("a", 1000): api.OK, strings.Repeat("é", 500): api.OK, strings.Repeat("a", 1001): api.ErrForm, strings.Repeat("é", 501): api.ErrForm,
		"\x00": api.ErrForm, "\xff": api.ErrForm, "a\ufffe": api.ErrForm, "\xed\xa0\x80": api.ErrForm, strings.Repeat("a", 999) + "\xff": api.ErrForm, strings.Repeat("a", 1<<20): api.ErrForm} {
		if e := holdCheck(t, text(s)); e != want {
			t.Errorf("%.20q: %v", s, e)
		}
	}
	for _, s := range []string{"", "1", "a b", "é", "a-", "null", "if", "a\n", "\xff", strings.Repeat("a", 65), strings.Repeat("a", 1<<20)} {
		for _, v := range []api.Value{ctx("a", null), ctx("a b c", null, yes, no)} {
			v.Names[len(v.Names)-1] = s
			if e := holdCheck(t, v); e != api.ErrForm {
				t.Errorf("%.20q: %v", s, e)
			}
		}
	}
	for _, v := range []api.Value{ctx("a a", null, null), ctx("a b a", null, null, null), ctx("a", null, null), ctx("a b", null), ctx("", null), ctx("a"), ctx("a b b", null, yes, no)} {
		if e := holdCheck(t, v); e != api.ErrForm {
			t.Error(v, e)
		}
	}
	for _, v := range []api.Value{ctx("a A _", null, null, null), ctx(strings.Repeat("a", 64), null), ctx("a", ctx("a", null)), list(ctx("a", null), ctx("a", null))} {
		if e := holdCheck(t, v); e != api.OK {
			t.Error(v, e)
		}
	}
}

// P7.1: the limits of parts and of depth, and which of the errors comes first.
func TestCheckLimits(t *testing.T) {
	bad := api.Value{Kind: 7}
	flat := func(n int) api.Value { return api.Value{Kind: api.List, List: make([]api.Value, n)} }
	wide := ctx("", make([]api.Value, 999)...)
	for i := range wide.List {
		wide.Names = append(wide.Names, "n"+strconv.Itoa(i))
	}
	misnamed := ctx("", make([]api.Value, 1000)...)
	for _, c := range []struct {
		v    api.Value
		want api.Errno
	}{
		{flat(998), api.OK}, {flat(999), api.OK}, {flat(1000), api.ErrLong}, {flat(1 << 20), api.ErrLong}, {list(flat(499), flat(498)), api.OK}, {list(flat(499), flat(499)), api.ErrLong}, {list(flat(999)), api.ErrLong}, {list(flat(998)), api.OK},
		{wide, api.OK}, {list(wide), api.ErrLong}, {misnamed, api.ErrLong}, {nested(null, 15), api.OK}, {nested(null, 16), api.ErrDeep}, {nested(null, 998), api.ErrDeep}, {nested(null, 999), api.ErrDeep}, {nested(null, 1000), api.ErrLong},
		{nested(list(), 15), api.OK}, {nested(list(), 16), api.ErrDeep}, {nested(ctx("a", null), 14), api.OK}, {nested(ctx("a", null), 15), api.ErrDeep}, {list(nested(null, 14), null), api.OK}, {list(null, nested(null, 15), null), api.ErrDeep},
		{nested(bad, 15), api.ErrForm}, {nested(bad, 16), api.ErrDeep}, {list(bad, nested(null, 15)), api.ErrDeep}, {list(bad, flat(998)), api.ErrLong}, {list(nested(null, 16), flat(982)), api.ErrLong}, {list(nested(null, 16), flat(981)), api.ErrDeep},
		// What a kind holds that may hold nothing counts, too.
		{api.Value{Kind: 9, List: make([]api.Value, 1000)}, api.ErrLong}, {api.Value{Kind: api.Text, List: make([]api.Value, 999)}, api.ErrForm}, {api.Value{List: []api.Value{nested(null, 15)}}, api.ErrDeep}, {api.Value{List: []api.Value{nested(null, 14)}}, api.ErrForm},
	} {
		if e := holdCheck(t, c.v); e != c.want {
			t.Errorf("%.100v: wanted %v, told %v", c.v, c.want, e)
		}
	}
}

// P1, P7.1: a list that holds itself, or the same values many times, is too long.
func TestCheckEnds(t *testing.T) {
	own := list(null, null)
	own.List[1] = own
	one := list(null)
	one.List[0] = one
	twice := list(null, null)
	twice.List[0], twice.List[1] = twice, twice
	many := list(null)
	for range 60 {
		many = list(many, many)
	}
	few := list(null)
	for range 8 {
		few = list(few, few)
	}
	for _, v := range []api.Value{own, one, twice, many, {Kind: api.Ctx, List: own.List, Names: []string{"a", "b"}}, {Kind: 7, List: one.List}} {
		if e := Check(v); e != api.ErrLong {
			t.Error(e)
		}
		if Same(v, v) {
			t.Error("Same")
		}
		if s, e := Print(v); s != "" || e != api.ErrLong {
			t.Error(s, e)
		}
		if r, e := Equal(v, v); r.Kind != 0 || e != api.ErrLong {
			t.Error(r, e)
		}
	}
	if e := Check(few); e != api.OK || !Same(few, few) {
		t.Error(e)
	}
}

// P7.1: Same of all pairs; nil and empty slices are the same.
func TestSame(t *testing.T) {
	l := pool()
	for i, a := range l {
		for k, b := range l {
			want := reflect.DeepEqual(copied(a), copied(b))
			if Same(a, b) != want || i == k && !want {
				t.Errorf("Same(%v, %v): %v", a, b, !want)
			}
		}
		if !Same(a, copied(a)) || !Same(copied(a), a) {
			t.Errorf("Same with a copy: %v", a)
		}
	}
	for _, kind := range []int{0, 1, 3, 5, 6} {
		a, b := api.Value{Kind: kind}, api.Value{Kind: kind, List: []api.Value{}, Names: []string{}}
		if !Same(a, b) || !Same(b, a) || !Same(list(a), list(b)) || Check(b) != api.OK {
			t.Error("nil and empty", kind)
		}
	}
	for _, bad := range unformed() {
		for _, v := range bad {
			if Same(v, v) || Same(v, null) || Same(null, v) {
				t.Errorf("Same(%.100v)", v)
			}
		}
	}
}
