package calc

import (
	"slices"
	"strings"

	"tariff/api"
	"tariff/dec"
	"tariff/value"
)

// number is a number as a value, or the error that there is instead.
func number(n api.Dec, e api.Errno) (api.Value, api.Errno) {
	if e != api.OK {
		return api.Value{}, e
	}
	return api.Value{Kind: api.Num, Num: n}, api.OK
}

// count is a plain number as a value.
func count(n int) (api.Value, api.Errno) {
	return number(dec.Of(n), api.OK)
}

// day is a date as a value, or the error that there is instead.
func day(n int, e api.Errno) (api.Value, api.Errno) {
	if e != api.OK {
		return api.Value{}, e
	}
	return api.Value{Kind: api.Date, Day: n}, api.OK
}

// text is a text as a value, unless it is too long for one.
func text(s string) (api.Value, api.Errno) {
	if len(s) > api.MaxText {
		return api.Value{}, api.ErrLong
	}
	return api.Value{Kind: api.Text, Text: s}, api.OK
}

// truth is true or false as a value.
func truth(yes bool) (api.Value, api.Errno) {
	return api.Value{Kind: api.Bool, Yes: yes}, api.OK
}

// checked is a value, unless it has too many parts or is too deep.
func checked(v api.Value) (api.Value, api.Errno) {
	if e := value.Check(v); e != api.OK {
		return api.Value{}, e
	}
	return v, api.OK
}

// clone is a value that shares no memory with v, nor any two of its lists with each other.
func clone(v api.Value) api.Value {
	v.Text = strings.Clone(v.Text)
	v.List, v.Names = slices.Clone(v.List), slices.Clone(v.Names)
	for i, part := range v.List {
		v.List[i] = clone(part)
	}
	for i, name := range v.Names {
		v.Names[i] = strings.Clone(name)
	}
	return v
}
