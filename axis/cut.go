package axis

import (
	"cmp"
	"slices"
	"strings"

	"tariff/api"
	"tariff/dec"
)

// cut is the segments of a kind for ends of that kind.
func cut(kind int, ends []api.Value) []Seg {
	switch kind {
	case api.Bool:
		return []Seg{{api.Value{Kind: api.Bool}, true}, {api.Value{Kind: api.Bool, Yes: true}, true}}
	case api.Text:
		return cutTexts(points(ends))
	}
	return cutRow(kind, points(ends))
}

// cutTexts is the segments of texts.
func cutTexts(points []api.Value) []Seg {
	var segs []Seg
	other := ""
	for _, p := range points {
		segs = append(segs, Seg{p, true})
		// The shorter of two texts of letters a comes first, so none that was passed over occurs later.
		if p.Text == other {
			other += "a"
		}
	}
	return append(segs, Seg{Value: api.Value{Kind: api.Text, Text: other}})
}

// cutRow is the segments of numbers or dates.
func cutRow(kind int, points []api.Value) []Seg {
	var segs []Seg
	rest, more := least(kind), true // the least value that is in no segment yet, if there is one
	for _, p := range points {
		if compare(rest, p) < 0 {
			segs = append(segs, Seg{Value: rest})
		}
		segs = append(segs, Seg{p, true})
		rest, more = next(p)
	}
	if more {
		segs = append(segs, Seg{Value: rest})
	}
	return segs
}

// find is the place of the segment that a value is in.
func find(segs []Seg, v api.Value) int {
	last := len(segs) - 1
	if v.Kind == api.Text {
		at, ok := search(segs[:last], v)
		if !ok {
			return last
		}
		return at
	}
	at, ok := search(segs, v)
	if !ok {
		at-- // it is behind the first value of the segment ahead of where it would stand
	}
	return at
}

// search is the place of the segment with a first value; false if there is none: then where it would stand.
func search(segs []Seg, v api.Value) (int, bool) {
	return slices.BinarySearchFunc(segs, v, func(s Seg, v api.Value) int { return compare(s.Value, v) })
}

// points is the values that are among some, each of them once, in increasing order.
func points(ends []api.Value) []api.Value {
	var list []api.Value
	for _, v := range ends {
		// The lists of a value stay behind: empty ones may have room that is not to be shared.
		list = append(list, api.Value{Kind: v.Kind, Num: v.Num, Text: strings.Clone(v.Text), Day: v.Day})
	}
	slices.SortFunc(list, compare)
	return slices.CompactFunc(list, func(a, b api.Value) bool { return compare(a, b) == 0 })
}

// compare is negative, 0 or positive, if a is below, equal to or above b, which has the same kind.
func compare(a, b api.Value) int {
	switch a.Kind {
	case api.Num:
		side, _ := dec.Cmp(a.Num, b.Num) // both are in form
		return side
	case api.Text:
		return strings.Compare(a.Text, b.Text)
	case api.Date:
		return cmp.Compare(a.Day, b.Day)
	}
	return truth(a) - truth(b)
}

// truth is 0 for false, and 1 for true.
func truth(v api.Value) int {
	if v.Yes {
		return 1
	}
	return 0
}

// least is the least number, or the first date.
func least(kind int) api.Value {
	if kind == api.Date {
		return api.Value{Kind: api.Date, Day: 1}
	}
	d, _ := dec.Parse("-" + strings.Repeat("9", api.MaxDigits))
	return api.Value{Kind: api.Num, Num: d}
}

// next is the number, or the date, behind another one; false if there is none.
func next(v api.Value) (api.Value, bool) {
	if v.Kind == api.Date {
		return api.Value{Kind: api.Date, Day: v.Day + 1}, v.Day < api.MaxDay
	}
	d, e := dec.Next(v.Num)
	return api.Value{Kind: api.Num, Num: d}, e == api.OK
}
