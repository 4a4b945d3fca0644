package tree

import (
	"math"
	"reflect"
	"strconv"
	"strings"
	"testing"

	"tariff/api"
)

// holdCheck holds Check and Kids against what is wanted, and tells the error that is wanted.
func holdCheck(t *testing.T, l []api.Elem) api.Errno {
	t.Helper()
	want := wantCheck(l)
	if e := Check(l); e != want {
		t.Errorf("Check(%s): %v, want %v", brief(l), e, want)
	}
	for _, at := range []int{math.MinInt, -2, -1, 0, 1, len(l) / 2, len(l) - 1, len(l), len(l) + 1, math.MaxInt} {
		kids, e := Kids(l, at)
		wantErr, wantList := want, []int(nil)
		if want == api.OK && (at < 0 || at >= len(l)) {
			wantErr = api.ErrArg
		}
		if wantErr == api.OK {
			wantList = wantKids(l, at)
		}
		if e != wantErr || len(kids) != len(wantList) || len(kids) > 0 && !reflect.DeepEqual(kids, wantList) {
			t.Errorf("Kids(%s, %d): %v %v, want %v %v", brief(l), at, kids, e, wantList, wantErr)
		}
	}
	return want
}

// ups is a tree of elements with these parents.
func ups(list ...int) []api.Elem {
	var l []api.Elem
	for i, up := range list {
		l = append(l, api.Elem{Name: "e" + strconv.Itoa(i), Up: up})
	}
	return l
}

// P6.1: Check and Kids of each way in which a few elements may hang together.
func TestCheckEachShape(t *testing.T) {
	count := map[api.Errno]int{}
	var grow func(l []int, left int)
	grow = func(l []int, left int) {
		count[holdCheck(t, ups(l...))]++
		for up := -2; up < 6 && left > 0; up++ {
			grow(append(l[:len(l):len(l)], up), left-1)
		}
	}
	grow(nil, 5)
	// Of one element to five: 1, 1, 2, 5 and 14 ordered trees.
	if count[api.OK] != 23 {
		t.Error(count)
	}
}

// P6.1: the chapter's examples.
func TestCheckExamples(t *testing.T) {
	if e := holdCheck(t, nil); e != api.ErrForm {
		t.Error(e)
	}
	if e := holdCheck(t, ups(-1, 0, 0, 1)); e != api.ErrForm {
		t.Error(e)
	}
	l := ups(-1, 0)
	l[0].Text = "x"
	if e := holdCheck(t, l); e != api.ErrForm {
		t.Error(e)
	}
	if k, e := Kids(ups(-1, 0, 0), 0); !reflect.DeepEqual(k, []int{1, 2}) || e != api.OK {
		t.Error(k, e)
	}
	if k, e := Kids(ups(-1, 0, 0), 3); len(k) != 0 || e != api.ErrArg {
		t.Error(k, e)
	}
	if k, e := Kids(ups(-1, 0, 0), 2); len(k) != 0 || e != api.OK {
		t.Error(k, e)
	}
	for _, up := range []int{math.MinInt, math.MaxInt, 2, 1 << 40} {
		if e := holdCheck(t, ups(-1, 0, up, 0)); e != api.ErrForm {
			t.Error(up, e)
		}
	}
}

// P6.1: names, attributes and texts that may stand in an element, and those that may not, first, last and within.
func TestCheckElements(t *testing.T) {
	many := make([]api.Attr, 17)
	for i := range many {
		many[i].Name = "x" + strconv.Itoa(i)
	}
	good := []api.Elem{{Name: "a"}, {Name: strings.Repeat("a", 64), Text: "\t\n\ré"}, {Name: "a", Attrs: []api.Attr{{Name: "x", Value: "\t\n\r<&é"}, {Name: "X"}}}, {Name: "a", Attrs: many[:16]}}
	bad := []api.Elem{{}, {Name: "1a"}, {Name: "a:b"}, {Name: "a b"}, {Name: strings.Repeat("a", 65)}, {Name: "a", Text: "\x00"}, {Name: "a", Text: "\xff"}, {Name: "a", Text: "a\ufffe"},
		{Name: "a", Attrs: many}, {Name: "a", Attrs: []api.Attr{{Name: "x"}, {Name: "x"}}}, {Name: "a", Attrs: []api.Attr{{Name: "x", Value: "1"}, {Name: "y"}, {Name: "x", Value: "2"}}},
		{Name: "a", Attrs: []api.Attr{{}}}, {Name: "a", Attrs: []api.Attr{{Name: "-"}}}, {Name: "a", Attrs: []api.Attr{{Name: "x", Value: "\x0b"}}}, {Name: "a", Attrs: []api.Attr{{Name: "x"}, {Name: "y", Value: "\xed\xa0\x80"}}},
		{Name: "a", Attrs: make([]api.Attr, 1<<16)}}
	// The first element has others here, so that its text must be empty.
	for at := range 4 {
		for i, e := range append(good, bad...) {
			l := ups(-1, 0, 0, 0)
			e.Up = l[at].Up
			l[at] = e
			want := api.ErrForm
			if i < len(good) && (at > 0 || e.Text == "") {
				want = api.OK
			}
			if told := holdCheck(t, l); told != want {
				t.Errorf("%s: wanted %v, told %v", brief(l), want, told)
			}
		}
	}
}

// P6.1: the limits, and which of the errors comes first.
func TestCheckLimits(t *testing.T) {
	chain := func(n int) []api.Elem {
		l := ups(-1)
		for i := 1; i < n; i++ {
			l = append(l, api.Elem{Name: "a", Up: i - 1})
		}
		return l
	}
	wide := func(n int) []api.Elem {
		l := make([]api.Elem, n)
		for i := range l {
			l[i].Name = "a"
		}
		l[0].Up = -1
		return l
	}
	spoil := func(l []api.Elem) []api.Elem {
		l[len(l)-1].Name = ""
		return l
	}
	for _, c := range []struct {
		l    []api.Elem
		want api.Errno
	}{
		{chain(60), api.OK}, {chain(61), api.ErrDeep}, {chain(70), api.ErrDeep}, {spoil(chain(61)), api.ErrForm}, {append(chain(61), api.Elem{Name: "a", Text: "\x00"}), api.ErrForm},
		{append(chain(60), api.Elem{Name: "a", Up: 58}), api.OK}, {append(chain(60), api.Elem{Name: "a", Up: 59}), api.ErrDeep}, {append(chain(60), ups(-1)...), api.ErrForm},
		{wide(20000), api.OK}, {wide(20001), api.ErrLong}, {spoil(wide(20000)), api.ErrForm}, {spoil(wide(20001)), api.ErrLong}, {make([]api.Elem, 20001), api.ErrLong}, {make([]api.Elem, 20000), api.ErrForm},
		{chain(20001), api.ErrLong},
	} {
		if e := holdCheck(t, c.l); e != c.want {
			t.Errorf("%s: wanted %v, told %v", brief(c.l), c.want, e)
		}
	}
	s := &source{state: 6}
	for range 3000 {
		if e := holdCheck(t, s.tree(40)); e != api.OK {
			t.Error(e)
		}
	}
}

// P6.1: a tree that goes down to its greatest depth and back to its first element, again and again.
func TestCheckFarBack(t *testing.T) {
	for _, c := range []struct {
		depth int
		want  api.Errno
	}{{60, api.OK}, {61, api.ErrDeep}} {
		l := ups(-1)
		for i := 1; i < 20000; i++ {
			up := i - 1
			if i%(c.depth-1) == 1 {
				up = 0
			}
			l = append(l, api.Elem{Name: "a", Up: up})
		}
		if e := holdCheck(t, l); e != c.want {
			t.Error(c.depth, e)
		}
	}
}
