package check

import (
	"slices"

	"tariff/api"
	"tariff/kind"
)

// typeOf is the type of a node whose parts have these types; of tests it is of no use.
func (known scope) typeOf(n api.Node, parts []api.Type) (api.Type, api.Errno) {
	switch n.Op {
	case api.OName:
		t, ok := known[n.Text]
		return t, errorUnless(ok, api.ErrName)
	case api.OCall:
		return callOf(n.Text, parts)
	case api.OAdd:
		return sumOf(parts[0], parts[1])
	case api.OIf:
		t, _ := kind.Join(parts[1], parts[2]) // both are in form
		return t, errorUnless(meets(parts[0], boolean), api.ErrType)
	case api.OList:
		return listOf(parts), api.OK
	}
	return simpleType(n.Op), errorUnless(simple(n.Op, parts), api.ErrType)
}

// simpleType is the type that a node has whatever its parts are.
func simpleType(op int) api.Type {
	switch op {
	case api.ONum, api.ONeg, api.OSub, api.OMul, api.ODiv:
		return number
	case api.OText:
		return text
	case api.ODate:
		return day
	case api.OTrue, api.OFalse, api.OEq, api.ONe, api.OLt, api.OLe, api.OGt, api.OGe,
		api.OAnd, api.OOr, api.OBetween, api.OIn:
		return boolean
	}
	return anything
}

// simple tells whether a node of such a type may have parts of these types.
func simple(op int, parts []api.Type) bool {
	switch op {
	case api.ONeg, api.OSub, api.OMul, api.ODiv:
		return allMeet(parts, number)
	case api.OAnd, api.OOr:
		return allMeet(parts, boolean)
	case api.OEq, api.ONe:
		return meets(parts[0], parts[1])
	case api.OLt, api.OLe, api.OGt, api.OGe:
		return ordered(parts[0], parts[1])
	case api.OBetween:
		return ordered(parts[0], parts[1]) && ordered(parts[0], parts[2])
	case api.OPath:
		return parts[0] == anything
	}
	return true
}

// callOf is the type of a call of a function with parts of these types.
func callOf(name string, parts []api.Type) (api.Type, api.Errno) {
	params, result, ok := function(name)
	switch {
	case !ok:
		return api.Type{}, api.ErrName
	case !slices.EqualFunc(parts, params, meets):
		return api.Type{}, api.ErrType
	}
	return result, api.OK
}

// sumOf is the type of a sum of two numbers, or of two texts.
func sumOf(a, b api.Type) (api.Type, api.Errno) {
	both := []api.Type{a, b}
	switch asNumbers, asTexts := allMeet(both, number), allMeet(both, text); {
	case asNumbers && asTexts:
		return anything, api.OK
	case asNumbers:
		return number, api.OK
	case asTexts:
		return text, api.OK
	}
	return api.Type{}, api.ErrType
}

// listOf is the type of a list of parts of these types.
func listOf(parts []api.Type) api.Type {
	if len(parts) == 0 || slices.ContainsFunc(parts, func(t api.Type) bool { return t != parts[0] }) {
		return list
	}
	if of := (api.Type{Kind: api.List, Of: parts[0].Kind}); kind.Form(of) {
		return of
	}
	return list
}

// errorUnless is OK if something holds, and otherwise the error.
func errorUnless(holds bool, e api.Errno) api.Errno {
	if holds {
		return api.OK
	}
	return e
}
