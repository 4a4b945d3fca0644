package mark

import (
	"strings"

	"tariff/api"
	"tariff/chars"
)

// reader is a document that is being read: it has been read up to at.
type reader struct {
	doc    string
	at     int
	begin  int // where the piece begins that is being read
	events []api.Event
	places []int // of each event: where its piece begins
}

// pieces reads the document to its end; false if it can't be read on.
func (r *reader) pieces() bool {
	var event api.Event
	var attr api.Attr
	var gap, ok bool
	if !r.head() {
		return false
	}
piece:
	r.begin = r.at
	switch {
	case r.at == len(r.doc):
		return true
	case r.take("<!--"):
		goto comment
	case r.take("</"):
		goto closing
	case r.take("<"):
		goto opening
	}
	if !r.data() {
		return false
	}
	goto piece
comment:
	// There is no -- within, so the first one must be that of the end.
	if !r.pass("--") || !r.take(">") {
		return false
	}
	goto piece
closing:
	if !r.end() {
		return false
	}
	goto piece
opening:
	event = api.Event{Kind: api.Open, Name: r.name()}
	if event.Name == "" {
		return false
	}
attributes:
	gap = r.blanks()
	switch {
	case r.take(">"):
		r.tell(event)
		goto piece
	case r.take("/>"):
		r.tell(event)
		r.tell(api.Event{Kind: api.Close, Name: event.Name})
		goto piece
	case !gap:
		return false
	}
	attr, ok = r.attr()
	if !ok {
		return false
	}
	event.Attrs = append(event.Attrs, attr)
	goto attributes
}

// head reads the first part, if there is one; false if it isn't whole.
func (r *reader) head() bool {
	// Without a blank the word would be a longer one, and no other part of that kind is allowed.
	return !r.take("<?xml") || r.blanks() && r.pass("?>")
}

// data reads the characters ahead of the next piece of another kind.
func (r *reader) data() bool {
	n := strings.IndexByte(r.doc[r.at:], '<')
	if n < 0 {
		n = len(r.doc) - r.at
	}
	s, ok := r.text(n, false)
	if ok {
		r.tell(api.Event{Kind: api.Data, Text: s})
	}
	return ok
}

// end reads what follows the first bytes of a close.
func (r *reader) end() bool {
	name := r.name()
	r.blanks()
	if name == "" || !r.take(">") {
		return false
	}
	r.tell(api.Event{Kind: api.Close, Name: name})
	return true
}

// attr reads an attribute.
func (r *reader) attr() (api.Attr, bool) {
	a := api.Attr{Name: r.name()}
	r.blanks()
	if a.Name == "" || !r.take("=") {
		return api.Attr{}, false
	}
	r.blanks()
	var ok bool
	switch {
	case r.take(`"`):
		a.Value, ok = r.value('"')
	case r.take("'"):
		a.Value, ok = r.value('\'')
	}
	return a, ok
}

// value reads an attribute's value up to the quote that ends it, and that quote.
func (r *reader) value(quote byte) (string, bool) {
	n := strings.IndexByte(r.doc[r.at:], quote)
	if n < 0 {
		return "", false
	}
	s, ok := r.text(n, true)
	if ok {
		r.at++
	}
	return s, ok
}

// text reads so many bytes, and tells what they stand for: Unescape refuses a < among them.
func (r *reader) text(n int, attr bool) (string, bool) {
	s, e := chars.Unescape(r.doc[r.at:r.at+n], attr)
	if e != api.OK {
		return "", false
	}
	r.at += n
	return s, true
}

// name reads a name; "" if none stands there.
func (r *reader) name() string {
	end := r.at
	for end < len(r.doc) && inName(r.doc[end]) {
		end++
	}
	s := r.doc[r.at:end]
	if !Name(s) {
		return ""
	}
	r.at = end
	return strings.Clone(s)
}

// blanks reads the blanks that stand there, and tells whether there is one.
func (r *reader) blanks() bool {
	from := r.at
	for r.at < len(r.doc) && isBlank(r.doc[r.at]) {
		r.at++
	}
	return r.at > from
}

// take reads a mark, if the rest begins with it.
func (r *reader) take(mark string) bool {
	if !strings.HasPrefix(r.doc[r.at:], mark) {
		return false
	}
	r.at += len(mark)
	return true
}

// pass reads up to the first of a mark and that mark, if there is one.
func (r *reader) pass(mark string) bool {
	n := strings.Index(r.doc[r.at:], mark)
	if n < 0 {
		return false
	}
	r.at += n + len(mark)
	return true
}

// tell adds an event of the piece that is being read.
func (r *reader) tell(e api.Event) {
	r.events = append(r.events, e)
	r.places = append(r.places, r.begin)
}

// first is where the first piece begins whose attributes have a fault.
func (r *reader) first(fault func([]api.Attr) bool) (int, bool) {
	for i, e := range r.events {
		if fault(e.Attrs) {
			return r.places[i], true
		}
	}
	return 0, false
}
