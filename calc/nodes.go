package calc

import (
	"slices"

	"tariff/api"
	"tariff/dec"
	"tariff/value"
)

// What the functions of value answer besides is OK: whatever is handed to them here is in form.

// constant is the value of an instruction that pops nothing and needs no name.
func constant(ins api.Ins) api.Value {
	switch ins.Op {
	case api.OTrue, api.OAny:
		return api.Value{Kind: api.Bool, Yes: true}
	case api.OFalse:
		return api.Value{Kind: api.Bool}
	case api.ONum:
		return api.Value{Kind: api.Num, Num: ins.Num}
	case api.OText:
		return api.Value{Kind: api.Text, Text: ins.Text}
	case api.ODate:
		return api.Value{Kind: api.Date, Day: ins.Day}
	}
	return api.Value{}
}

// entry is the entry of that name; null if there is none, or the value is no context.
func entry(v api.Value, name string) api.Value {
	if i := slices.Index(v.Names, name); i >= 0 {
		return v.List[i]
	}
	return api.Value{}
}

// ofOne is the value of an instruction that pops one and can't fail.
func ofOne(ins api.Ins, a api.Value) api.Value {
	switch ins.Op {
	case api.OPath:
		return entry(a, ins.Text)
	case api.OEntry:
		// It stands for itself until its context takes it in, which then looks at the depth.
		return api.Value{Kind: api.Ctx, List: []api.Value{a}, Names: []string{ins.Text}}
	case api.ONot:
		return not(a)
	}
	if a.Kind != api.Num {
		return api.Value{}
	}
	a.Num, _ = dec.Neg(a.Num)
	return a
}

// ofTwo is the value of an operation with two sides.
func ofTwo(op int, a, b api.Value) (api.Value, api.Errno) {
	switch op {
	case api.OAdd, api.OSub, api.OMul, api.ODiv:
		return arithmetic(op, a, b)
	case api.OAnd:
		return and(a, b), api.OK
	case api.OOr:
		return or(a, b), api.OK
	}
	return compare(op, a, b), api.OK
}

// arithmetic is the value of an operation of numbers, or the sum of texts.
func arithmetic(op int, a, b api.Value) (api.Value, api.Errno) {
	switch {
	case op == api.OAdd && a.Kind == api.Text && b.Kind == api.Text:
		return text(a.Text + b.Text)
	case a.Kind != api.Num || b.Kind != api.Num:
		return api.Value{}, api.OK
	}
	switch op {
	case api.OAdd:
		return number(dec.Add(a.Num, b.Num))
	case api.OSub:
		return number(dec.Sub(a.Num, b.Num))
	case api.OMul:
		return number(dec.Mul(a.Num, b.Num))
	}
	return number(dec.Div(a.Num, b.Num))
}

// compare is the result of a comparison of a with b, or of the test of b for a.
func compare(op int, a, b api.Value) api.Value {
	switch op {
	case api.OLt, api.OBelow:
		return less(a, b)
	case api.OLe, api.OAtMost:
		return not(less(b, a))
	case api.OGt, api.OAbove:
		return less(b, a)
	case api.OGe, api.OAtLeast:
		return not(less(a, b))
	case api.ONe:
		return not(equal(a, b))
	}
	return equal(a, b)
}

// within is the result of an interval with these brackets for a value.
func within(v api.Value, brackets string, from, to api.Value) api.Value {
	low, high := api.OAbove, api.OBelow
	if brackets[0] == '[' {
		low = api.OAtLeast
	}
	if brackets[1] == ']' {
		high = api.OAtMost
	}
	return and(compare(low, v, from), compare(high, v, to))
}

// some is true if one of the results is, and otherwise null if one of them is.
func some(results []api.Value) api.Value {
	whole := api.Value{Kind: api.Bool}
	for _, r := range results {
		whole = or(whole, r)
	}
	return whole
}

// joined is the context of some entries.
func joined(entries []api.Value) api.Value {
	whole := api.Value{Kind: api.Ctx}
	for _, x := range entries {
		whole.List = append(whole.List, x.List...)
		whole.Names = append(whole.Names, x.Names...)
	}
	return whole
}

func equal(a, b api.Value) api.Value {
	result, _ := value.Equal(a, b)
	return result
}

func less(a, b api.Value) api.Value {
	result, _ := value.Less(a, b)
	return result
}

func and(a, b api.Value) api.Value {
	result, _ := value.And(a, b)
	return result
}

func or(a, b api.Value) api.Value {
	result, _ := value.Or(a, b)
	return result
}

func not(a api.Value) api.Value {
	result, _ := value.Not(a)
	return result
}
