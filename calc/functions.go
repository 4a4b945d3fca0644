package calc

import (
	"slices"
	"strings"

	"tariff/api"
	"tariff/chars"
	"tariff/check"
	"tariff/date"
	"tariff/dec"
	"tariff/value"
)

// call is Call of values in form.
func call(name string, l []api.Value) (api.Value, api.Errno) {
	params, _, e := check.Function(name)
	switch {
	case e != api.OK:
		return api.Value{}, e
	case len(l) != len(params):
		return api.Value{}, api.ErrType
	case !suit(l, params):
		return api.Value{}, api.OK
	}
	switch name {
	case "negate":
		return not(l[0]), api.OK
	case "string":
		s, _ := value.Print(l[0])
		return text(s)
	}
	switch params[0].Kind {
	case api.Num:
		return ofNumbers(name, l)
	case api.Text:
		return ofTexts(name, l)
	case api.Date:
		return ofDays(name, l)
	}
	return ofList(name, l)
}

// suit tells whether values are of the kinds of these parameters; a list must hold nothing but
// what it is a list of. (negate takes anything; of what is no boolean it makes null too.)
func suit(l []api.Value, params []api.Type) bool {
	for i, p := range params {
		if p.Kind != api.Null && p.Kind != l[i].Kind {
			return false
		}
		other := func(v api.Value) bool { return v.Kind != p.Of }
		if p.Of != api.Null && slices.ContainsFunc(l[i].List, other) {
			return false
		}
	}
	return true
}

// ofNumbers calls a function of numbers.
func ofNumbers(name string, l []api.Value) (api.Value, api.Errno) {
	a := l[0].Num
	switch name {
	case "abs":
		return number(dec.Abs(a))
	case "floor":
		return number(dec.Floor(a))
	case "ceiling":
		return number(dec.Ceil(a))
	case "modulo":
		return number(dec.Mod(a, l[1].Num))
	}
	n, ok := wholes(l[1:])
	if !ok {
		return api.Value{}, api.OK
	}
	result, e := dec.Round(a, n[0])
	return orNull(number(result, e))
}

// ofTexts calls a function of a text, and perhaps of something besides.
func ofTexts(name string, l []api.Value) (api.Value, api.Errno) {
	s := l[0].Text
	switch name {
	case "contains":
		return truth(strings.Contains(s, l[1].Text))
	case "starts":
		return truth(strings.HasPrefix(s, l[1].Text))
	case "length":
		n, _ := chars.Count(s)
		return count(n)
	case "upper":
		s, _ = chars.Upper(s)
		return text(s)
	case "lower":
		s, _ = chars.Lower(s)
		return text(s)
	case "date":
		return orNull(day(date.Parse(s)))
	}
	n, ok := wholes(l[1:])
	if !ok {
		return api.Value{}, api.OK
	}
	part, e := chars.Part(s, n[0], n[1])
	if e != api.OK {
		return api.Value{}, api.OK
	}
	return text(part)
}

// ofDays calls a function of a date, and perhaps of something besides.
func ofDays(name string, l []api.Value) (api.Value, api.Errno) {
	from := l[0].Day
	year, month, dayOfMonth, _ := date.Split(from)
	switch name {
	case "year":
		return count(year)
	case "month":
		return count(month)
	case "day":
		return count(dayOfMonth)
	case "weekday":
		n, _ := date.Weekday(from)
		return count(n)
	}
	n, ok := wholes(l[1:])
	switch {
	case !ok:
		return api.Value{}, api.OK
	case name == "days":
		return day(date.Add(from, n[0]))
	}
	return day(date.Months(from, n[0]))
}

// ofList calls a function of a list, and perhaps of something besides.
func ofList(name string, l []api.Value) (api.Value, api.Errno) {
	list := l[0].List
	switch {
	case name == "count":
		return count(len(list))
	case name == "append":
		return checked(api.Value{Kind: api.List, List: slices.Concat(list, l[1:])})
	case len(list) == 0:
		return api.Value{}, api.OK
	}
	result := list[0].Num
	for _, v := range list[1:] {
		var e api.Errno
		if result, e = merge(name, result, v.Num); e != api.OK {
			return api.Value{}, e
		}
	}
	return number(result, api.OK)
}

// merge is the least, the greatest or the sum of two numbers.
func merge(name string, a, b api.Dec) (api.Dec, api.Errno) {
	if name == "sum" {
		return dec.Add(a, b)
	}
	side, _ := dec.Cmp(a, b)
	if name == "min" && side > 0 || name == "max" && side < 0 {
		return b, api.OK
	}
	return a, api.OK
}

// wholes is the plain numbers that some numbers are; false if one of them is none.
func wholes(l []api.Value) ([]int, bool) {
	var list []int
	for _, v := range l {
		n, e := dec.Int(v.Num)
		if e != api.OK {
			return nil, false
		}
		list = append(list, n)
	}
	return list, true
}

// orNull is a value, and null instead of an error.
func orNull(v api.Value, _ api.Errno) (api.Value, api.Errno) {
	return v, api.OK
}
