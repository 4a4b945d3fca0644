package tree

import (
	"fmt"
	"reflect"
	"strings"
	"testing"

	"tariff/api"
	"tariff/chars"
	"tariff/mark"
)

// What the chapter says, worked out by lists of what is open and by calls within calls.

// wantForm tells whether a tree is in form.
func wantForm(t []api.Elem) bool {
	var open []int
	parent := map[int]bool{}
	for i, e := range t {
		if (e.Up == -1) != (i == 0) {
			return false
		}
		for i > 0 && len(open) > 0 && open[len(open)-1] != e.Up {
			open = open[:len(open)-1]
		}
		if i > 0 && len(open) == 0 {
			return false
		}
		open = append(open, i)
		parent[e.Up] = true
		names := map[string]bool{}
		for _, a := range e.Attrs {
			names[a.Name] = true
			if !mark.Name(a.Name) || !chars.Valid(a.Value) {
				return false
			}
		}
		if len(e.Attrs) > 16 || len(names) != len(e.Attrs) || !mark.Name(e.Name) || !chars.Valid(e.Text) {
			return false
		}
	}
	for i, e := range t {
		if parent[i] && e.Text != "" {
			return false
		}
	}
	return len(t) > 0
}

// wantDepth is the depth of an element.
func wantDepth(t []api.Elem, at int) int {
	if at == 0 {
		return 1
	}
	return wantDepth(t, t[at].Up) + 1
}

// wantCheck is Check.
func wantCheck(t []api.Elem) api.Errno {
	if len(t) > 20000 {
		return api.ErrLong
	}
	if !wantForm(t) {
		return api.ErrForm
	}
	for i := range t {
		if wantDepth(t, i) > 60 {
			return api.ErrDeep
		}
	}
	return api.OK
}

// wantKids is what Kids answers of a tree and a place in it.
func wantKids(t []api.Elem, at int) []int {
	var kids []int
	for i := at + 1; i < len(t); i++ {
		if t[i].Up == at {
			kids = append(kids, i)
		}
	}
	return kids
}

// wantRead is Read.
func wantRead(b string) ([]api.Elem, api.Errno) {
	events, _, e := mark.Read(b)
	if e != api.OK {
		return nil, e
	}
	var t []api.Elem
	rest, ok := wantInside(&t, events, -1)
	// A close that no element is open for is left over; so is nothing else.
	if !ok || len(rest) > 0 || len(t) == 0 || len(wantKids(t, -1)) > 1 {
		return nil, api.ErrText
	}
	return t, wantCheck(t)
}

// wantInside reads what stands in an element up to its close, and answers what follows.
func wantInside(t *[]api.Elem, list []api.Event, up int) ([]api.Event, bool) {
	text, kids := "", up < 0
	for len(list) > 0 && list[0].Kind != api.Close {
		e := list[0]
		list = list[1:]
		if e.Kind == api.Data {
			text += e.Text
			continue
		}
		kids = true
		at := len(*t)
		*t = append(*t, api.Elem{Name: e.Name, Up: up, Attrs: e.Attrs})
		rest, ok := wantInside(t, list, at)
		if !ok || len(rest) == 0 || rest[0].Name != e.Name {
			return nil, false
		}
		list = rest[1:]
	}
	if kids && strings.ContainsFunc(text, func(r rune) bool { return !strings.ContainsRune(" \t\r\n", r) }) {
		return nil, false
	}
	if !kids {
		(*t)[up].Text = text
	}
	return list, true
}

// wantWrite is the document of a tree in form.
func wantWrite(t []api.Elem) string {
	return "<?xml version=\"1.0\" encoding=\"UTF-8\"?>\n" + wantElem(t, 0, "")
}

// wantElem is an element of it, with its line's end.
func wantElem(t []api.Elem, at int, ahead string) string {
	e := t[at]
	s := ahead + "<" + e.Name
	for _, a := range e.Attrs {
		s += " " + a.Name + "=\"" + strings.NewReplacer("&", "&amp;", "<", "&lt;", ">", "&gt;", "\"", "&quot;", "\r", "&#13;", "\n", "&#10;", "\t", "&#9;").Replace(a.Value) + "\""
	}
	kids := wantKids(t, at)
	switch {
	case len(kids) > 0:
		s += ">\n"
		for _, k := range kids {
			s += wantElem(t, k, ahead+"  ")
		}
		return s + ahead + "</" + e.Name + ">\n"
	case e.Text == "":
		return s + "/>\n"
	}
	return s + ">" + strings.NewReplacer("&", "&amp;", "<", "&lt;", ">", "&gt;", "\r", "&#13;").Replace(e.Text) + "</" + e.Name + ">\n"
}

// sameTree tells whether two trees are the same: nil and empty lists are.
func sameTree(a, b []api.Elem) bool {
	if len(a) != len(b) {
		return false
	}
	for i := range a {
		x, y := a[i], b[i]
		if len(x.Attrs) == 0 && len(y.Attrs) == 0 {
			x.Attrs, y.Attrs = nil, nil
		}
		if !reflect.DeepEqual(x, y) {
			return false
		}
	}
	return true
}

// hold holds what Read answers against what is wanted, and tells the error that is wanted.
func hold(t *testing.T, b string) api.Errno {
	t.Helper()
	want, wantErr := wantRead(b)
	if wantErr != api.OK {
		want = nil
	}
	got, at, e := Read(b)
	if e != wantErr || !sameTree(got, want) {
		t.Errorf("Read(%.300q): %s %v, want %s %v", b, brief(got), e, brief(want), wantErr)
	}
	if at < 0 || at > len(b) || e == api.OK && at != 0 {
		t.Errorf("Read(%.300q): place %v, %v", b, at, e)
	}
	if e == api.OK {
		if c := Check(got); c != api.OK {
			t.Errorf("Read(%.300q): Check %v", b, c)
		}
	}
	return wantErr
}

// brief is the beginning of what a value looks like.
func brief(v any) string {
	return fmt.Sprintf("%.300q", fmt.Sprintf("%v", v))
}

// source makes numbers, the same ones in every test run.
type source struct{ state uint64 }

func (s *source) below(n int) int {
	s.state = s.state*6364136223846793005 + 1442695040888963407
	x := s.state
	x ^= x >> 33
	x *= 0xff51afd7ed558ccd
	return int((x ^ x>>29) >> 1 % uint64(n))
}

// of is one of the list.
func (s *source) of(list []string) string {
	return list[s.below(len(list))]
}

var names = []string{"a", "b", "_c", "d-1.x", "definitions", strings.Repeat("n", 64)}

var texts = []string{"", "", "t", " ", "\n", "\r\n", "\t \r", "a<b>&\"'", "&amp;", "é😀", "]]>", " x ", "<!-- -->", "\ufffd\u00a0", "x\n\n  y"}

// tree is a tree in form of at most so many elements.
func (s *source) tree(most int) []api.Elem {
	var t []api.Elem
	open := []int{-1}
	for i := range s.below(most) + 1 {
		for i > 0 && len(open) > 2 && (s.below(3) == 0 || len(open) > 60) {
			open = open[:len(open)-1]
		}
		e := api.Elem{Name: s.of(names), Up: open[len(open)-1]}
		if i == 0 {
			e.Up = -1
		} else {
			t[e.Up].Text = ""
		}
		for k := range s.below(4) {
			e.Attrs = append(e.Attrs, api.Attr{Name: names[k], Value: s.of(texts)})
		}
		e.Text = s.of(texts)
		t = append(t, e)
		open = append(open, i)
	}
	return t
}

// words hands every string of at most so many of the parts to a check.
func words(parts []string, most int, check func(s string)) {
	check("")
	if most == 0 {
		return
	}
	for _, p := range parts {
		words(parts, most-1, func(s string) {
			check(p + s)
		})
	}
}
