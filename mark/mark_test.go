package mark

import (
	"strconv"
	"strings"
	"testing"

	"tariff/api"
)

// P5.1: Name of strings with each byte at each kind of place, and of each length.
func TestName(t *testing.T) {
	list := []string{"", "a", "_", "a-1.b", "-a", ".a", "1a", "a:b", "a b", "a\n", " a", "é", "aé", "xml", "if", "a--", "_.", "A", "Z9", "\xff", "a\x00", "a/", "a>"}
	for n := 60; n < 70; n++ {
		list = append(list, strings.Repeat("a", n), strings.Repeat("_", n), "z"+strings.Repeat("-", n-1), "é"+strings.Repeat("a", n))
	}
	for c := range 256 {
		b := string([]byte{byte(c)})
		list = append(list, b, "a"+b, b+"a", "a"+b+"a")
	}
	for _, s := range append(list, strings.Repeat("a", 400000)) {
		want := namePattern.MatchString(s) && !strings.HasSuffix(s, "\n")
		if Name(s) != want {
			t.Errorf("Name: %.100q", s)
		}
	}
	if !Name("a-1.b") || !Name(strings.Repeat("a", 64)) || Name(strings.Repeat("a", 65)) || Name("") || Name("-a") || Name("a:b") {
		t.Error("Name")
	}
}

// P5.1: the chapter's examples, and documents like them.
func TestReadExamples(t *testing.T) {
	open := func(name string, attrs ...api.Attr) api.Event {
		return api.Event{Kind: api.Open, Name: name, Attrs: attrs}
	}
	shut := func(name string) api.Event { return api.Event{Kind: api.Close, Name: name} }
	data := func(text string) api.Event { return api.Event{Kind: api.Data, Text: text} }
	for _, c := range []struct {
		doc  string
		want []api.Event
	}{
		{"<a x='1' y=\"&lt;\"/>", []api.Event{open("a", api.Attr{Name: "x", Value: "1"}, api.Attr{Name: "y", Value: "<"}), shut("a")}},
		{"<?xml version='1.0'?>\n<a>b<!-- c -->d</a >", []api.Event{data("\n"), open("a"), data("b"), data("d"), shut("a")}},
		{"", nil},
		{"</a>", []api.Event{shut("a")}},
		{"a > b", []api.Event{data("a > b")}},
		{"<!---->", nil},
		{"<!-- > - <a> & \x22 -->", nil},
		{"<!--->-->", nil},
		{"<?xml ?>", nil},
		{"<?xml\n <a> & -- ? > ?>?>", []api.Event{data("?>")}},
		{"<a\tx\r\n=\n'\"'\r/>", []api.Event{open("a", api.Attr{Name: "x", Value: "\""}), shut("a")}},
		{"<a x='a\r\nb\tc\nd\r&#13;&#10;&#9;>]]>'>", []api.Event{open("a", api.Attr{Name: "x", Value: "a b c d \r\n\t>]]>"})}},
		{"a\r\nb\rc&#13;&amp;lt;]]>\t", []api.Event{data("a\nb\nc\r&lt;]]>\t")}},
		{"<a x='' X=\"'\"/></b></b\r>", []api.Event{open("a", api.Attr{Name: "x"}, api.Attr{Name: "X", Value: "'"}), shut("a"), shut("b"), shut("b")}},
		{"a\r<b/>\n", []api.Event{data("a\n"), open("b"), shut("b"), data("\n")}},
		{"\u00e9\U0001f600<a x='\u00e9'/>", []api.Event{data("\u00e9\U0001f600"), open("a", api.Attr{Name: "x", Value: "\u00e9"}), shut("a")}},
		{"a<!----><!-- -->b", []api.Event{data("a"), data("b")}},
	} {
		got, at, e := Read(c.doc)
		if e != api.OK || at != 0 || !sameEvents(got, c.want) {
			t.Errorf("Read(%q): %v %v %v", c.doc, got, at, e)
		}
		hold(t, c.doc)
	}
}

// P5.1: what is no document, though it is a text.
func TestReadWrong(t *testing.T) {
	for _, s := range []string{"<", "<a", "<a x>", "<a x=1>", "<a x='1'y='2'>", "< a>", "<a/ >", "<!-- -- -->", "<!DOCTYPE a>", "<?pi?>", "<![CDATA[x]]>", "a & b", "<a x='<'>",
		" <?xml version='1.0'?>", "<?xml?>", "<a x='&'>", "<a x='&nbsp;'>", "&#0;", "&lt", "<a x=\"1'>", "<a x='1\">", "<a x= >", "<a x=", "<a x='", "<a ='1'>", "<a x 'y'>", "<a x=='1'>",
		"</a x='1'>", "</ a>", "</a/>", "</a", "</>", "<>", "<//>", "</", "<!", "<!-", "<!-->", "<!--->", "<!--", "<!-- -", "<!-- --", "<!-- -- >", "<!- ->", "<!--a--", "<?xml", "<?xml ", "<?xml ?",
		"<?xml >", "<?xmla ?>", "<?XML ?>", "<?xml ?><?xml ?>", "<a/><?xml ?>", "<a:b>", "<a x:y='1'>", "<1>", "<-a>", "<a.b/><.a/>", "<a x='1' /y>", "<a / >", "<a\u00a0x='1'>", "<a x='1'\u2028>",
		"<" + strings.Repeat("a", 65) + ">", "</" + strings.Repeat("a", 65) + ">", "<a " + strings.Repeat("a", 65) + "='1'>", "<a>>>&</a>", "<a x='1'&#32;y='2'>"} {
		if got, at, e := Read(s); e != api.ErrText || len(got) != 0 || at < 0 || at > len(s) {
			t.Errorf("Read(%q): %v %v %v", s, got, at, e)
		}
		hold(t, s)
	}
	long := strings.Repeat("a", 64)
	if e := hold(t, "<"+long+" "+long+"='1'>x</"+long+">"); e != api.OK {
		t.Error("64 bytes", e)
	}
}

// P5.1: Read of each short string of what matters to it.
func TestReadWords(t *testing.T) {
	count := map[api.Errno]int{}
	check := func(ahead, behind string) func(s string) {
		return func(s string) { count[hold(t, ahead+s+behind)]++ }
	}
	words([]string{"<", ">", "/", "a", " ", "=", "'", "&lt;"}, 5, check("", ""))
	words([]string{" ", "\n", "a", "=", "'", "\"", "/", ">", "'b'"}, 5, check("<a", ""))
	words([]string{" ", "x", "1", "=", "'", "<", "-"}, 5, check("<a x='", "'/>"))
	words([]string{"<!--", "<!-", "-->", "-", ">", "a", "<"}, 5, check("", ""))
	words([]string{"-", ">", "a", "\n", "<!", "&"}, 6, check("<!--", "-->"))
	words([]string{"<?xml", "<?", " ", "\r", "?", ">", "a", "<!---->"}, 5, check("", ""))
	words([]string{"<a", "<", "/", " ", "x='1'", "y=\"2\"", ">", "t"}, 5, check("", ""))
	words([]string{" x='1'", " y=''", " x", "='2'", " "}, 5, check("<a", "/>"))
	// Without enough of each, the words would tell little.
	if count[api.OK] < 50000 || count[api.ErrText] < 50000 || count[api.ErrTwice] < 100 {
		t.Error("what the words come to", count)
	}
}

var parts = []string{"<a>", "</a>", "<b/>", "<a x='1' y=\"2\">", "<_-. z = 'it&apos;s' />", "text", "\r\n", "\t", " ", "a > b", "&lt;&#65;&#x42;", "<!-- c -->", "<!---->", "é😀",
	"<c x='\r\n\t\r&#10;&quot;' />", "</b >", "\r", "<d\n>"}

// P5.1: longer documents, and the same ones with a byte more, less or changed.
func TestReadLonger(t *testing.T) {
	s := &source{state: 5}
	for i := range 4000 {
		doc := s.join(parts, 20)
		if i%2 == 0 {
			doc = "<?xml version=\"1.0\" encoding=\"UTF-8\"?>\n" + doc
		}
		if e := hold(t, doc); e != api.OK {
			t.Errorf("%q: %v", doc, e)
		}
	}
	for range 60000 {
		doc := s.join(parts, 6)
		const bytes = "<>/='\"& \n-!?ax1;#\x00\xff"
		at, c := s.below(len(doc)+1), bytes[s.below(len(bytes)):][:1]
		skip := s.below(2)
		hold(t, doc[:at]+c+doc[min(at+skip, len(doc)):])
		hold(t, doc[:at]+doc[min(at+1, len(doc)):])
	}
}

// attrs is so many attributes, each with a name of its own.
func attrs(n int) string {
	var b strings.Builder
	for i := range n {
		b.WriteString(" x" + strconv.Itoa(i) + "='" + strconv.Itoa(i) + "'")
	}
	return b.String()
}

// P5.1: the errors, in their order, wherever in the document they lie.
func TestReadErrors(t *testing.T) {
	twice, many := "<a x='1' x='2'>", "<a"+attrs(17)+">"
	for _, c := range []struct {
		doc  string
		want api.Errno
	}{
		{twice, api.ErrTwice}, {"<a x='1' y='1' x=\"1\"/>", api.ErrTwice}, {"<a x='1' X='1'/>", api.OK}, {"<a x='1'/><a x='1'/>", api.OK},
		{"<a" + attrs(16) + "/>", api.OK}, {many, api.ErrLong}, {"<a" + attrs(17) + " x0=''/>", api.ErrLong}, {"<a" + attrs(15) + " x0=''/>", api.ErrTwice}, {"<a" + attrs(16) + " x0=''/>", api.ErrLong},
		{many + twice, api.ErrLong}, {twice + many, api.ErrLong}, {twice + "<", api.ErrText}, {many + "&", api.ErrText}, {twice + many + "<a", api.ErrText}, {"<a" + attrs(17) + " x0=>", api.ErrText},
		{"\xff", api.ErrForm}, {"<\xff", api.ErrForm}, {twice + "<<\x00", api.ErrForm}, {"<!-- \x0b -->", api.ErrForm}, {"<a x='\ufffe'/>", api.ErrForm}, {"<a/>\xed\xa0\x80", api.ErrForm},
		{strings.Repeat("a", 300000), api.OK}, {strings.Repeat("a", 300001), api.ErrLong}, {strings.Repeat("\xff", 300001), api.ErrLong}, {strings.Repeat("\xff", 300000), api.ErrForm},
		{strings.Repeat("<", 300001), api.ErrLong}, {strings.Repeat("<", 300000), api.ErrText}, {strings.Repeat("é", 150001), api.ErrLong}, {strings.Repeat("é", 150000), api.OK},
		{strings.Repeat("<a/>", 75000), api.OK}, {strings.Repeat("a<!---->", 37500), api.OK}, {"<a" + attrs(20000) + ">", api.ErrLong}, {"<a" + strings.Repeat(" x=''", 50000) + "/>", api.ErrLong},
		{"<?xml " + strings.Repeat("?", 200000), api.ErrText}, {"<!--" + strings.Repeat("- ", 140000), api.ErrText}, {"<a" + strings.Repeat(" ", 299990) + "/>", api.OK},
	} {
		if e := hold(t, c.doc); e != c.want {
			t.Errorf("%.100q: wanted %v, told %v", c.doc, c.want, e)
		}
	}
}

// P5.2: no two lists of a result share memory, and no later call changes an earlier result.
func TestReadNewMemory(t *testing.T) {
	doc := "<a x='1' y='2' z='3'><b x='1'/><c x='1' y='2'/></a>"
	want, _ := wantRead(doc)
	first, _, _ := Read(doc)
	second, _, _ := Read(doc)
	for i := range first {
		list := first[i].Attrs
		for k := range list {
			list[k] = api.Attr{Name: "other", Value: "other"}
		}
		list = append(list, api.Attr{Name: "more"}, api.Attr{Name: "more"})
		for k := range list[:cap(list)] {
			list[:cap(list)][k] = api.Attr{Name: "rest"}
		}
		first[i] = api.Event{}
		for k := i + 1; k < len(first); k++ {
			if !sameEvents(first[k:k+1], want[k:k+1]) {
				t.Errorf("event %d changes with event %d: %v", k, i, first[k])
			}
		}
	}
	third, _, _ := Read(doc)
	if !sameEvents(second, want) || !sameEvents(third, want) {
		t.Error(second, third)
	}
}
