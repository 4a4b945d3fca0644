package value

import (
	"strings"

	"tariff/api"
	"tariff/chars"
	"tariff/date"
	"tariff/dec"
)

// Read: the value of a text.
func Read(s string) (v api.Value, e api.Errno) {
	if len(s) > api.MaxBytes {
		return api.Value{}, api.ErrLong
	}
	defer func() {
		if recover() != nil {
			v, e = api.Value{}, api.ErrText
		}
	}()
	r := reader{rest: s}
	v = r.value(1)
	must(r.rest == "" && Check(v) == api.OK)
	return v, api.OK
}

// reader takes a value's text apart from the left. Each of its steps panics if the
// text goes on in no way that Print writes.
type reader struct {
	rest  string // what is left
	parts int    // how many values have begun
}

// must panics unless what is required holds.
func must(holds bool) {
	if !holds {
		panic(api.ErrText)
	}
}

// take takes a piece off, if it comes next.
func (r *reader) take(piece string) bool {
	rest, ok := strings.CutPrefix(r.rest, piece)
	r.rest = rest
	return ok
}

// value takes off a value that is so deep within the whole.
func (r *reader) value(depth int) api.Value {
	r.parts++
	// Check would refuse such a value too, but only at the end of a long way down.
	must(r.parts <= api.MaxParts && depth <= api.MaxNest)
	switch {
	case r.take("null"):
		return api.Value{}
	case r.take("true"):
		return truth(true)
	case r.take("false"):
		return truth(false)
	case r.take("@"):
		return r.date()
	case r.take("["):
		return r.list(depth)
	case r.take("{"):
		return r.context(depth)
	case strings.HasPrefix(r.rest, `"`):
		return api.Value{Kind: api.Text, Text: r.quoted()}
	}
	return r.number()
}

// number takes off a number.
func (r *reader) number() api.Value {
	digits := r.rest[:len(r.rest)-len(strings.TrimLeft(r.rest, "-.0123456789"))]
	n, e := dec.Parse(digits)
	must(e == api.OK)
	text, _ := dec.Print(n)
	must(text == digits) // Parse takes zeros at the end, which Print does not write
	r.rest = r.rest[len(digits):]
	return api.Value{Kind: api.Num, Num: n}
}

// date takes off what stands behind the @ of a date.
func (r *reader) date() api.Value {
	day, e := date.Parse(r.quoted())
	must(e == api.OK)
	return api.Value{Kind: api.Date, Day: day}
}

// quoted takes off a text in quotes.
func (r *reader) quoted() string {
	end := 1
	for end < len(r.rest) && r.rest[end] != '"' {
		if r.rest[end] == '\\' {
			end++
		}
		end++
	}
	must(end < len(r.rest))
	text, e := chars.Unquote(r.rest[:end+1])
	must(e == api.OK)
	r.rest = r.rest[end+1:]
	return text
}

// list takes off what stands behind the [ of a list.
func (r *reader) list(depth int) api.Value {
	v := api.Value{Kind: api.List}
	if r.take("]") {
		return v
	}
	for {
		v.List = append(v.List, r.value(depth+1))
		if r.take("]") {
			return v
		}
		must(r.take(", "))
	}
}

// context takes off what stands behind the { of a context.
func (r *reader) context(depth int) api.Value {
	v := api.Value{Kind: api.Ctx}
	if r.take("}") {
		return v
	}
	for {
		v.Names = append(v.Names, r.name())
		v.List = append(v.List, r.value(depth+1))
		if r.take("}") {
			return v
		}
		must(r.take(", "))
	}
}

// name takes off an entry's name, and the colon and the blank behind it.
func (r *reader) name() string {
	name, rest, ok := strings.Cut(r.rest, ": ")
	must(ok && chars.Name(name))
	r.rest = rest
	return strings.Clone(name)
}
