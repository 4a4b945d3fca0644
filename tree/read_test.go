package tree

import (
	"strings"
	"testing"

	"tariff/api"
)

// P6.2: the chapter's examples, and documents like them.
func TestReadExamples(t *testing.T) {
	for _, c := range []struct {
		doc  string
		want []api.Elem
	}{
		{"<a><b x='1'/><c>t</c></a>", []api.Elem{{Name: "a", Up: -1}, {Name: "b", Attrs: []api.Attr{{Name: "x", Value: "1"}}}, {Name: "c", Text: "t"}}},
		{"<a> <b/> </a>", []api.Elem{{Name: "a", Up: -1}, {Name: "b"}}},
		{"<a> </a>", []api.Elem{{Name: "a", Up: -1, Text: " "}}},
		{"<a></a>", []api.Elem{{Name: "a", Up: -1}}},
		{"<?xml version='1.0'?>\n<!-- c -->\r\n<a/>\t<!-- d --> ", []api.Elem{{Name: "a", Up: -1}}},
		{"<a>x<!-- c -->y<!-- d --> z</a>", []api.Elem{{Name: "a", Up: -1, Text: "xy z"}}},
		{"&#32;<a>&#9;<b>&#32;</b>&#13;&#10;</a>&#13;", []api.Elem{{Name: "a", Up: -1}, {Name: "b", Text: " "}}},
		{"<a><b><c/></b><d>\r\n</d></a>", []api.Elem{{Name: "a", Up: -1}, {Name: "b"}, {Name: "c", Up: 1}, {Name: "d", Text: "\n"}}},
		{"<a><a><a></a ></a\n></a>", []api.Elem{{Name: "a", Up: -1}, {Name: "a"}, {Name: "a", Up: 1}}},
	} {
		got, at, e := Read(c.doc)
		if e != api.OK || at != 0 || !sameTree(got, c.want) {
			t.Errorf("Read(%q): %v %v %v", c.doc, got, at, e)
		}
		hold(t, c.doc)
	}
	for _, s := range []string{"", " ", "<!-- -->", "<?xml ?>", "<a>", "<a></b>", "<a/><b/>", "<a/><a/>", "x<a/>", "<a/>x", "<a>x<b/></a>", "<a><b/>x</a>", "<a><b/> <c/>x</a>", "</a>", "<a/></a>", "</a><a/>",
		"<a><b></a></b>", "<a><b></a>", "<a></A>", "x", "&#120;<a/>", "<a>\u00a0<b/></a>", "\u2003<a/>", "<a>x<!-- --><b/></a>", "<a> <!-- -->x<b/></a>", "<a><b>x</b>y</a>", "<a/>\ufeff", "\ufeff<a/>", "<a", "<a>&</a>"} {
		if got, at, e := Read(s); e != api.ErrText || len(got) != 0 || at < 0 || at > len(s) {
			t.Errorf("Read(%q): %v %v %v", s, got, at, e)
		}
		hold(t, s)
	}
}

// P6.2: Read of each short string of pieces.
func TestReadWords(t *testing.T) {
	count := map[api.Errno]int{}
	check := func(s string) { count[hold(t, s)]++ }
	words([]string{"<a>", "</a>", "<b>", "</b>", "<c/>", " ", "x"}, 6, check)
	words([]string{"<a>", "</a>", "<c x='1'/>", "&#10;", "\r", "&lt;", "<!---->"}, 5, check)
	words([]string{"<a x='1'>", "</a >", "<b x='1' x='2'>", "</b>", "<", "\x00"}, 4, check)
	if count[api.OK] < 500 || count[api.ErrText] < 50000 || count[api.ErrTwice] < 50 || count[api.ErrForm] < 50 {
		t.Error("what the words come to", count)
	}
}

// P6.2: the errors of the document's pieces, and the limits, in their order.
func TestReadErrors(t *testing.T) {
	deep := func(n int) string { return strings.Repeat("<a>", n) + strings.Repeat("</a>", n) }
	wide := func(n int) string { return "<a>" + strings.Repeat("<b/>", n-1) + "</a>" }
	many := "<a" + strings.Repeat(" x=''", 17) + ">"
	for _, c := range []struct {
		doc  string
		want api.Errno
	}{
		{deep(60), api.OK}, {deep(61), api.ErrDeep}, {deep(40000), api.ErrLong}, {deep(20000), api.ErrDeep}, {deep(61) + "<a/>", api.ErrText}, {"<a>" + deep(61), api.ErrText}, {"<a>" + deep(60) + "</a>", api.ErrDeep},
		{"<a>" + deep(59) + deep(59) + "<b/></a>", api.OK}, {"<a>" + deep(59) + deep(60) + "<b/></a>", api.ErrDeep}, {strings.Repeat("<a>", 100000), api.ErrText}, {deep(61) + "<", api.ErrText},
		{wide(20000), api.OK}, {wide(20001), api.ErrLong}, {wide(70000), api.ErrLong}, {wide(20001) + "x", api.ErrText}, {wide(20001) + deep(1), api.ErrText}, {"<a>" + deep(61) + wide(20001) + "</a>", api.ErrLong},
		{"<a x='1' x='2'/>", api.ErrTwice}, {"</a><a x='1' x='2'>", api.ErrTwice}, {"</b>" + many, api.ErrLong}, {many + "</b>&", api.ErrText}, {"<a>\xff", api.ErrForm}, {strings.Repeat("<a>", 100001), api.ErrLong},
		{"<a>" + strings.Repeat("x<!---->", 37499) + "</a>", api.OK}, {"<a>" + strings.Repeat("x<!---->", 37498) + "<b/></a>", api.ErrText}, {"<a>" + strings.Repeat("\r", 299993) + "</a>", api.OK},
	} {
		if e := hold(t, c.doc); e != c.want {
			t.Errorf("%.100q: wanted %v, told %v", c.doc, c.want, e)
		}
	}
}

// P6.4: no two lists of a result share memory, and no later call changes an earlier result.
func TestReadNewMemory(t *testing.T) {
	doc := "<a x='1' y='2' z='3'><b x='1'/><c x='1' y='2'>t</c></a>"
	want, _ := wantRead(doc)
	first, _, _ := Read(doc)
	second, _, _ := Read(doc)
	for i := range first {
		list := append(first[i].Attrs, api.Attr{Name: "more"}, api.Attr{Name: "more"})
		for _, part := range [][]api.Attr{first[i].Attrs, first[i].Attrs[:cap(first[i].Attrs)], list[:cap(list)]} {
			for k := range part {
				part[k] = api.Attr{Name: "other", Value: "other"}
			}
		}
		first[i] = api.Elem{}
		for k := i + 1; k < len(first); k++ {
			if !sameTree(first[k:k+1], want[k:k+1]) {
				t.Errorf("element %d changes with element %d: %v", k, i, first[k])
			}
		}
	}
	third, _, _ := Read(doc)
	if !sameTree(second, want) || !sameTree(third, want) {
		t.Error(second, third)
	}
}
