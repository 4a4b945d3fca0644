package tree

import (
	"encoding/xml"
	"errors"
	"io"
	"reflect"
	"strings"
	"testing"

	"tariff/api"
)

// P6.3: the chapter's example, and one of everything that is escaped.
func TestWriteExamples(t *testing.T) {
	l, _, _ := Read("<a><b x='1'/><c>t</c></a>")
	s, e := Write(l)
	if want := "<?xml version=\"1.0\" encoding=\"UTF-8\"?>\n<a>\n  <b x=\"1\"/>\n  <c>t</c>\n</a>\n"; s != want || e != api.OK {
		t.Errorf("%q %v", s, e)
	}
	l = []api.Elem{{Name: "a", Up: -1}, {Name: "b", Attrs: []api.Attr{{Name: "x", Value: "\"'<>&\t\n\r é"}, {Name: "y"}}}, {Name: "c", Up: 1, Text: "\"'<>&\t\n\r é"}, {Name: "d", Up: 1}, {Name: "e", Up: 0, Text: " "}}
	s, e = Write(l)
	want := "<?xml version=\"1.0\" encoding=\"UTF-8\"?>\n<a>\n  <b x=\"&quot;'&lt;&gt;&amp;&#9;&#10;&#13; é\" y=\"\">\n    <c>\"'&lt;&gt;&amp;\t\n&#13; é</c>\n    <d/>\n  </b>\n  <e> </e>\n</a>\n"
	if s != want || e != api.OK {
		t.Errorf("%q %v", s, e)
	}
	s, e = Write([]api.Elem{{Name: "a", Up: -1}})
	if s != "<?xml version=\"1.0\" encoding=\"UTF-8\"?>\n<a/>\n" || e != api.OK {
		t.Errorf("%q %v", s, e)
	}
}

// holdWrite holds Write and Read against each other and against what is wanted.
func holdWrite(t *testing.T, l []api.Elem) {
	t.Helper()
	doc, e := Write(l)
	if e != api.OK || doc != wantWrite(l) {
		t.Errorf("Write(%v): %q %v, want %q", l, doc, e, wantWrite(l))
	}
	back, at, e := Read(doc)
	if e != api.OK || at != 0 || !sameTree(back, l) {
		t.Errorf("Read(%q): %v %v %v, want %v", doc, back, at, e, l)
	}
	again, e := Write(back)
	if e != api.OK || again != doc {
		t.Errorf("Write(%v): %q %v, want %q", back, again, e, doc)
	}
}

// P6.3: trees of every kind are written as the chapter says, and read as they were.
func TestWriteAndRead(t *testing.T) {
	s := &source{state: 63}
	for range 3000 {
		l := s.tree(30)
		holdWrite(t, l)
		doc, _ := Write(l)
		if got := foreign(t, doc); !sameTree(got, l) {
			t.Errorf("%q: %v, want %v", doc, got, l)
		}
	}
	for range 30 {
		holdWrite(t, s.tree(800))
	}
}

// foreign is the tree of a document as the library reads it.
func foreign(t *testing.T, doc string) []api.Elem {
	var l []api.Elem
	open := []int{-1}
	d := xml.NewDecoder(strings.NewReader(doc))
	for {
		token, err := d.Token()
		if errors.Is(err, io.EOF) {
			break
		}
		if err != nil {
			t.Errorf("%q: %v", doc, err)
			break
		}
		switch x := token.(type) {
		case xml.StartElement:
			e := api.Elem{Name: x.Name.Local, Up: open[len(open)-1]}
			for _, a := range x.Attr {
				e.Attrs = append(e.Attrs, api.Attr{Name: a.Name.Local, Value: a.Value})
			}
			open = append(open, len(l))
			l = append(l, e)
		case xml.EndElement:
			open = open[:len(open)-1]
		case xml.CharData:
			if at := open[len(open)-1]; at >= 0 {
				l[at].Text += string(x)
			}
		}
	}
	for i := range l {
		if len(wantKids(l, i)) > 0 {
			l[i].Text = strings.Trim(l[i].Text, " \n")
		}
	}
	return l
}

// P6.3: what is read of other documents is written as one document, which is read as the same tree.
func TestReadAndWrite(t *testing.T) {
	count := 0
	words([]string{"<a>", "</a>", "<b x=\"&#10;'\" y='\n'>", "</b>", "<c/>", " \r\n", "&#13;"}, 6, func(s string) {
		l, _, e := Read(s)
		if e == api.OK {
			holdWrite(t, l)
			count++
		}
	})
	if count < 300 {
		t.Error(count)
	}
}

// P6.3: the errors of Check, and the limit of the document's size.
func TestWriteErrors(t *testing.T) {
	deep := ups(-1)
	for i := range 60 {
		deep = append(deep, api.Elem{Name: "a", Up: i})
	}
	behind := func(name string) []api.Elem {
		return append(deep[:len(deep):len(deep)], api.Elem{Name: name, Text: strings.Repeat("x", 400000)})
	}
	for _, c := range []struct {
		l    []api.Elem
		want api.Errno
	}{
		{nil, api.ErrForm}, {ups(-1, 0, 0, 1), api.ErrForm}, {ups(0), api.ErrForm}, {deep, api.ErrDeep}, {deep[:60], api.OK}, {make([]api.Elem, 20001), api.ErrLong},
		{[]api.Elem{{Name: "a", Up: -1, Text: strings.Repeat("\x00", 400000)}}, api.ErrForm}, {behind("a"), api.ErrDeep}, {behind(""), api.ErrForm},
	} {
		s, e := Write(c.l)
		if e != c.want || (s != "") != (e == api.OK) {
			t.Errorf("Write(%s): %.100q %v, want %v", brief(c.l), s, e, c.want)
		}
	}
}

// P6.3: a document of just so many bytes is written, and none of a byte more, whatever takes the room.
func TestWriteLimit(t *testing.T) {
	fill := func(shape []api.Elem, at int, by string) func(int) []api.Elem {
		return func(n int) []api.Elem {
			l := append([]api.Elem{}, shape...)
			l[at].Text = strings.Repeat(by, n)
			return l
		}
	}
	attr := func(by string) func(int) []api.Elem {
		return func(n int) []api.Elem {
			return []api.Elem{{Name: "a", Up: -1}, {Name: "b", Attrs: []api.Attr{{Name: "x", Value: strings.Repeat(by, n)}, {Name: "y"}}}}
		}
	}
	rows := func(name string) func(int) []api.Elem {
		return func(n int) []api.Elem {
			l := []api.Elem{{Name: "a", Up: -1}}
			for range n {
				l = append(l, api.Elem{Name: name})
			}
			return l
		}
	}
	stair := ups(-1, 0, 1, 2, 3, 4)
	for i, c := range []struct {
		tree func(n int) []api.Elem
		unit int // the bytes by which the document grows with n
	}{
		{fill(ups(-1), 0, "x"), 1}, {fill(ups(-1, 0), 1, "x"), 1}, {fill(stair, 5, "x"), 1}, {fill(ups(-1, 0, 1, 0), 2, "x"), 1}, {fill(rows("abcdef")(19999), 7, "x"), 1}, {fill(rows("abcdef")(19999), 19999, "x"), 1},
		{fill(stair, 5, "é"), 2}, {fill(stair, 5, "&"), 5}, {fill(stair, 5, "\r"), 5}, {fill(ups(-1), 0, "\n"), 1}, {attr("x"), 1}, {attr("\n"), 5}, {attr("\""), 6},
		{rows(strings.Repeat("n", 64)), 2 + 1 + 64 + 2 + 1}, {rows(strings.Repeat("n", 60)), 2 + 1 + 60 + 2 + 1},
	} {
		one, _ := Write(c.tree(1))
		n := (300000-len(one))/c.unit + 1
		l := c.tree(n)
		s, e := Write(l)
		if e != api.OK || len(s) != len(one)+(n-1)*c.unit || len(s)+c.unit <= 300000 {
			t.Errorf("%d: %d bytes, %v", i, len(s), e)
		}
		if back, _, e := Read(s); e != api.OK || !sameTree(back, l) {
			t.Errorf("%d: Read %v", i, e)
		}
		for _, more := range []int{1, 2, 3, 1000} {
			if s, e := Write(c.tree(n + more)); e != api.ErrLong || s != "" {
				t.Errorf("%d: %d bytes, %v", i, len(s), e)
			}
		}
	}
	for n := 299990; n < 300010; n++ {
		for _, l := range [][]api.Elem{fill(ups(-1), 0, "x")(n), attr("x")(n)} {
			if s, e := Write(l); e != api.ErrLong || s != "" {
				t.Errorf("%d bytes, %v", len(s), e)
			}
		}
	}
}

// P6.4: what is handed in stays as it is, what lies behind it too.
func TestArgumentsStay(t *testing.T) {
	s := &source{state: 64}
	for range 300 {
		list := s.tree(20)
		for i := range list {
			list[i].Attrs = append(make([]api.Attr, 0, 8), list[i].Attrs...)
			copy(list[i].Attrs[len(list[i].Attrs):8], []api.Attr{{Name: "behind", Value: "it"}})
		}
		part := list[:len(list)/2+1]
		want := deepCopy(list)
		first, e := Write(part)
		kids, _ := Kids(part, 0)
		Check(part)
		if !reflect.DeepEqual(list, want) || e != api.OK {
			t.Fatalf("%v, was %v, %v", list, want, e)
		}
		for i := range kids {
			kids[i] = -5
		}
		again, _ := Kids(part, 0)
		if !reflect.DeepEqual(again, wantKids(part, 0)) && len(again) > 0 {
			t.Fatalf("Kids: %v", again)
		}
		for i := range list {
			list[i] = api.Elem{Name: "other", Up: -1}
		}
		if first != wantWrite(want[:len(part)]) {
			t.Fatalf("Write: %q", first)
		}
	}
}

// deepCopy is a tree with lists of its own, and what lies behind its attributes.
func deepCopy(l []api.Elem) []api.Elem {
	c := append([]api.Elem{}, l...)
	for i, e := range c {
		whole := append([]api.Attr{}, e.Attrs[:cap(e.Attrs)]...)
		c[i].Attrs = whole[:len(e.Attrs)]
	}
	return c
}
