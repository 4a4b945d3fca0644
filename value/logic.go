package value

import (
	"tariff/api"
	"tariff/dec"
)

// Equal: true, false, or null.
func Equal(a, b api.Value) (api.Value, api.Errno) {
	if e := checkBoth(a, b); e != api.OK {
		return api.Value{}, e
	}
	return equal(a, b), api.OK
}

// Less: true, false, or null.
func Less(a, b api.Value) (api.Value, api.Errno) {
	if e := checkBoth(a, b); e != api.OK {
		return api.Value{}, e
	}
	if a.Kind != b.Kind {
		return api.Value{}, api.OK
	}
	switch a.Kind {
	case api.Num:
		side, _ := dec.Cmp(a.Num, b.Num) // Check has found both in form
		return truth(side < 0), api.OK
	case api.Text:
		return truth(a.Text < b.Text), api.OK
	case api.Date:
		return truth(a.Day < b.Day), api.OK
	}
	return api.Value{}, api.OK
}

// And: of three values.
func And(a, b api.Value) (api.Value, api.Errno) {
	if e := checkBoth(a, b); e != api.OK {
		return api.Value{}, e
	}
	return and(a, b), api.OK
}

// Or: of three values.
func Or(a, b api.Value) (api.Value, api.Errno) {
	if e := checkBoth(a, b); e != api.OK {
		return api.Value{}, e
	}
	return not(and(not(a), not(b))), api.OK
}

// Not: of three values.
func Not(a api.Value) (api.Value, api.Errno) {
	if e := Check(a); e != api.OK {
		return api.Value{}, e
	}
	return not(a), api.OK
}

// checkBoth is the error of the first, or else that of the second.
func checkBoth(a, b api.Value) api.Errno {
	if e := Check(a); e != api.OK {
		return e
	}
	return Check(b)
}

// truth is true or false as a value.
func truth(yes bool) api.Value {
	return api.Value{Kind: api.Bool, Yes: yes}
}

// is tells whether a value is this of true and false.
func is(v api.Value, yes bool) bool {
	return v.Kind == api.Bool && v.Yes == yes
}

// and is And of values in form.
func and(a, b api.Value) api.Value {
	switch {
	case is(a, false) || is(b, false):
		return truth(false)
	case is(a, true) && is(b, true):
		return truth(true)
	}
	return api.Value{}
}

// not is Not of a value in form.
func not(a api.Value) api.Value {
	if a.Kind != api.Bool {
		return api.Value{}
	}
	return truth(!a.Yes)
}

// equal is Equal of values in form.
func equal(a, b api.Value) api.Value {
	switch {
	case a.Kind == api.Null || b.Kind == api.Null:
		return truth(a.Kind == b.Kind)
	case a.Kind != b.Kind:
		return api.Value{}
	case a.Kind == api.List:
		return equalLists(a.List, b.List)
	case a.Kind == api.Ctx:
		return equalEntries(a, b)
	}
	// Of these kinds, a value has only one form.
	return truth(same(a, b))
}

// equalLists is equal of two lists' values.
func equalLists(a, b []api.Value) api.Value {
	if len(a) != len(b) {
		return truth(false)
	}
	all := truth(true)
	for i := range a {
		all = and(all, equal(a[i], b[i]))
	}
	return all
}

// equalEntries is equal of two contexts.
func equalEntries(a, b api.Value) api.Value {
	if len(a.Names) != len(b.Names) {
		return truth(false)
	}
	at := places(b.Names)
	all := truth(true)
	for i, name := range a.Names {
		k, ok := at[name]
		if !ok {
			return truth(false)
		}
		all = and(all, equal(a.List[i], b.List[k]))
	}
	return all
}
