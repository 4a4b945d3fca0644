package check

import (
	"fmt"
	"slices"
	"strings"
	"testing"

	"tariff/api"
	"tariff/chars"
	"tariff/expr"
	"tariff/kind"
)

// What the chapter says, with types by their names, and with the chapter's table of functions as it stands.

const functions = `
abs, floor, ceiling|number|number
round, modulo|number, number|number
min, max, sum|list<number>|number
count|list<any>|number
contains, starts|string, string|boolean
length|string|number
substring|string, number, number|string
upper, lower|string|string
date|string|date
year, month, day, weekday|date|number
days, months|date, number|date
negate|boolean|boolean
append|list<any>, any|list<any>
string|any|string`

var typeNames = []string{"any", "boolean", "number", "string", "date", "list<any>", "list<boolean>", "list<number>", "list<string>", "list<date>"}

// wantFunction is the names of the types of a function's parameters, and of its result.
func wantFunction(name string) (params []string, result string, ok bool) {
	for _, line := range strings.Split(functions, "\n")[1:] {
		columns := strings.Split(line, "|")
		if slices.Contains(strings.Split(columns[0], ", "), name) {
			return strings.Split(columns[1], ", "), columns[2], true
		}
	}
	return nil, "", false
}

// functionNames is the names of all functions.
func functionNames() []string {
	var list []string
	for _, line := range strings.Split(functions, "\n")[1:] {
		list = append(list, strings.Split(strings.Split(line, "|")[0], ", ")...)
	}
	return list
}

// typeOf is the type of a name.
func typeOf(name string) api.Type {
	k, e := kind.Parse(name)
	if e != api.OK {
		panic(name)
	}
	return k
}

// wantMeet: one of two types that meet is above the other, since any is above all, and list<any> above all lists.
func wantMeet(a, b string) bool {
	above, _ := kind.Under(typeOf(a), typeOf(b))
	below, _ := kind.Under(typeOf(b), typeOf(a))
	return above || below
}

// wantOrdered tells whether two types are ordered.
func wantOrdered(a, b string) bool {
	for _, c := range []string{"number", "string", "date"} {
		if wantMeet(a, c) && wantMeet(b, c) {
			return true
		}
	}
	return false
}

// The table's rows that ask the same of all parts; a node may have one of several rows.
var rows = map[int][]string{
	api.ONeg: {"number|number"}, api.OAdd: {"number, number|number", "string, string|string"}, api.OSub: {"number, number|number"}, api.OMul: {"number, number|number"}, api.ODiv: {"number, number|number"},
	api.OLt: ordering, api.OLe: ordering, api.OGt: ordering, api.OGe: ordering, api.OAnd: {"boolean, boolean|boolean"}, api.OOr: {"boolean, boolean|boolean"},
	api.ONull: {"|any"}, api.OTrue: {"|boolean"}, api.OFalse: {"|boolean"}, api.ONum: {"|number"}, api.OText: {"|string"}, api.ODate: {"|date"}, api.OEntry: {"any|any"},
}

var ordering = []string{"number, number|boolean", "string, string|boolean", "date, date|boolean"}

// wantRow is the result of the rows that parts of these types meet: any if there are several; none if there is none.
func wantRow(rows []string, parts []string) (string, bool) {
	var results []string
	for _, r := range rows {
		asked, result, _ := strings.Cut(r, "|")
		all := true
		for i, k := range strings.Split(asked, ", ") {
			all = all && (k == "" || wantMeet(parts[i], k))
		}
		if all && !slices.Contains(results, result) {
			results = append(results, result)
		}
	}
	switch len(results) {
	case 0:
		return "", false
	case 1:
		return results[0], true
	}
	return "any", true
}

// wantNode is the type of the node at a place, with those of all nodes ahead of it.
func wantNode(nodes []api.Node, at int, types []string, names []api.Sym) (string, api.Errno) {
	n := nodes[at]
	kids, _ := expr.Parts(nodes, at)
	var parts []string
	for _, k := range kids {
		parts = append(parts, types[k])
	}
	result, ok := "any", true
	switch n.Op {
	case api.OName:
		for _, s := range names {
			if s.Name == n.Text {
				result, _ := kind.Name(s.Type)
				return result, api.OK
			}
		}
		return "", api.ErrName
	case api.OCall:
		params, result, known := wantFunction(n.Text)
		if !known {
			return "", api.ErrName
		}
		ok = len(params) == len(parts)
		for i := 0; ok && i < len(parts); i++ {
			ok = wantMeet(parts[i], params[i])
		}
		return result, errorOf(ok)
	case api.OEq, api.ONe:
		result, ok = "boolean", wantMeet(parts[0], parts[1])
	case api.OIf:
		joined, _ := kind.Join(typeOf(parts[1]), typeOf(parts[2]))
		result, _ = kind.Name(joined)
		ok = wantMeet(parts[0], "boolean")
	case api.OBetween:
		result, ok = "boolean", wantOrdered(parts[0], parts[1]) && wantOrdered(parts[0], parts[2])
	case api.OIn:
		result, ok = "boolean", wantFit(nodes, kids[1], types, parts[0])
	case api.OPath:
		ok = parts[0] == "any"
	case api.OList:
		result = "list<any>"
		if len(parts) > 0 && len(slices.Compact(slices.Clone(parts))) == 1 && !strings.HasPrefix(parts[0], "list") {
			result = "list<" + parts[0] + ">"
		}
	default:
		if r, here := rows[n.Op]; here {
			result, ok = wantRow(r, parts)
		}
	}
	return result, errorOf(ok)
}

// errorOf is OK if something holds, and otherwise ErrType.
func errorOf(ok bool) api.Errno {
	if ok {
		return api.OK
	}
	return api.ErrType
}

// wantFit tells whether the tests at a place fit a type.
func wantFit(nodes []api.Node, at int, types []string, of string) bool {
	kids, _ := expr.Parts(nodes, at)
	for _, k := range kids {
		ok := true
		switch nodes[at].Op {
		case api.OSome, api.ONot:
			ok = wantFit(nodes, k, types, of)
		case api.OIs:
			ok = wantMeet(of, types[k])
		default:
			ok = wantOrdered(of, types[k])
		}
		if !ok {
			return false
		}
	}
	return true
}

// wantTypes is the types of all nodes, or the error of the first that has one.
func wantTypes(nodes []api.Node, names []api.Sym) ([]string, api.Errno) {
	var types []string
	for at := range nodes {
		k, e := wantNode(nodes, at, types, names)
		if e != api.OK {
			return nil, e
		}
		types = append(types, k)
	}
	return types, api.OK
}

// wantNames is the error of a list of names.
func wantNames(names []api.Sym) api.Errno {
	if len(names) > 100 {
		return api.ErrLong
	}
	for i, s := range names {
		twice := slices.ContainsFunc(names[:i], func(o api.Sym) bool { return o.Name == s.Name })
		if _, e := kind.Name(s.Type); e != api.OK || twice || !chars.Name(s.Name) {
			return api.ErrForm
		}
	}
	return api.OK
}

// wantExpr is Expr.
func wantExpr(nodes []api.Node, names []api.Sym) (api.Type, api.Errno) {
	e := expr.Check(nodes, false)
	if e == api.OK {
		e = wantNames(names)
	}
	if e != api.OK {
		return api.Type{}, e
	}
	types, e := wantTypes(nodes, names)
	if e != api.OK {
		return api.Type{}, e
	}
	return typeOf(types[len(types)-1]), api.OK
}

// wantTests is Tests.
func wantTests(nodes []api.Node, of api.Type, names []api.Sym) api.Errno {
	e := expr.Check(nodes, true)
	if e == api.OK {
		e = wantNames(names)
	}
	if e != api.OK {
		return e
	}
	name, e := kind.Name(of)
	if e != api.OK {
		return e
	}
	types, e := wantTypes(nodes, names)
	if e != api.OK {
		return e
	}
	return errorOf(wantFit(nodes, len(nodes)-1, types, name))
}

// hold holds Expr, and Tests for each type, against what is wanted, and tells the error that is wanted of either.
func hold(t *testing.T, nodes []api.Node, names []api.Sym, types ...api.Type) api.Errno {
	t.Helper()
	keptNodes, keptNames := slices.Clone(nodes), slices.Clone(names)
	want, wantErr := wantExpr(nodes, names)
	if got, e := Expr(nodes, names); got != want || e != wantErr {
		t.Errorf("Expr(%s, %s): %v %v, want %v %v", brief(nodes), brief(names), got, e, want, wantErr)
	}
	for _, of := range types {
		wantErr = wantTests(nodes, of, names)
		if e := Tests(nodes, of, names); e != wantErr {
			t.Errorf("Tests(%s, %v, %s): %v, want %v", brief(nodes), of, brief(names), e, wantErr)
		}
	}
	if !slices.Equal(nodes, keptNodes) || !slices.Equal(names, keptNames) {
		t.Errorf("%s and %s are changed", brief(nodes), brief(names))
	}
	return wantErr
}

// brief is the beginning of what a thing looks like.
func brief(thing any) string {
	return fmt.Sprintf("%.300s", fmt.Sprint(thing))
}

// scopeOf is one name of each type: t0 to t9, in the order of typeNames.
func scopeOf() []api.Sym {
	var list []api.Sym
	for i, s := range typeNames {
		list = append(list, api.Sym{Name: fmt.Sprint("t", i), Type: typeOf(s)})
	}
	return list
}

// allTypes is the ten types.
func allTypes() []api.Type {
	var list []api.Type
	for _, s := range typeNames {
		list = append(list, typeOf(s))
	}
	return list
}

// parse is the nodes of an expression.
func parse(t *testing.T, s string) []api.Node {
	t.Helper()
	nodes, e := expr.Parse(s)
	if e != api.OK {
		t.Fatalf("%q: %v", s, e)
	}
	return nodes
}

// testsOf is the nodes of unary tests.
func testsOf(t *testing.T, s string) []api.Node {
	t.Helper()
	nodes, e := expr.Tests(s)
	if e != api.OK {
		t.Fatalf("%q: %v", s, e)
	}
	return nodes
}

// source makes numbers, the same ones in every test run.
type source struct{ state uint64 }

func (s *source) below(n int) int {
	s.state = s.state*6364136223846793005 + 1442695040888963407
	x := s.state
	x ^= x >> 33
	x *= 0xff51afd7ed558ccd
	return int((x ^ x>>29) >> 1 % uint64(n))
}

// pick is one of the texts.
func (s *source) pick(list ...string) string {
	return list[s.below(len(list))]
}

// of is a random expression, mostly of a type; one in so many is of any type.
func (s *source) of(name string, deep, others int) string {
	if s.below(others) == 0 {
		name = typeNames[s.below(len(typeNames))]
	}
	if s.below(others*4) == 0 {
		return s.pick("y", "f(t0)", "y()", "{a: y}")
	}
	if deep <= 0 || s.below(4) == 0 {
		return fmt.Sprint("t", slices.Index(typeNames, name))
	}
	sub := func(name string) string { return "(" + s.of(name, deep-1, others) + ")" }
	switch s.below(6) {
	case 0:
		return "if " + sub("boolean") + " then " + sub(name) + " else " + sub(name)
	case 1:
		var fitting []string
		for _, f := range functionNames() {
			if _, result, _ := wantFunction(f); result == name {
				fitting = append(fitting, f)
			}
		}
		if len(fitting) > 0 {
			f := s.pick(fitting...)
			params, _, _ := wantFunction(f)
			var args []string
			for _, p := range params {
				args = append(args, s.of(p, deep-1, others))
			}
			return f + "(" + strings.Join(args, ", ") + ")"
		}
	}
	order := s.pick("number", "string", "date", "any")
	switch name {
	case "number":
		return s.pick("1", "-"+sub(name), sub(name)+s.pick("+", "-", "*", "/")+sub(name))
	case "string":
		return s.pick(`"a"`, sub(name)+"+"+sub(name))
	case "date":
		return `@"2024-02-29"`
	case "boolean":
		some := typeNames[s.below(len(typeNames))]
		return s.pick("true", "false", sub(name)+s.pick(" and ", " or ")+sub(name), sub(some)+s.pick("=", "!=")+sub(some), sub(order)+s.pick("<", "<=", ">", ">=")+sub(order), sub(order)+" between "+sub(order)+" and "+sub(order), sub(order)+" in ("+s.tests(order, deep-1, others)+")")
	case "any":
		return s.pick("null", sub("any")+".a", "{a: "+sub("number")+", b: "+sub("any")+"}", sub("any")+"+"+sub("any"), "{}")
	case "list<any>":
		return s.pick("[]", "["+sub("any")+", "+sub("number")+"]")
	}
	item := strings.TrimSuffix(strings.TrimPrefix(name, "list<"), ">")
	return s.pick("["+sub(item)+"]", "["+sub(item)+", "+sub(item)+"]")
}

// tests is random tests separated by commas, mostly of a type.
func (s *source) tests(name string, deep, others int) string {
	var list []string
	for range 1 + s.below(3) {
		x, y := "("+s.of(name, deep, others)+")", "("+s.of(name, deep, others)+")"
		list = append(list, s.pick("("+x+")", "< "+x, "<= "+x, "> "+x, ">= "+x, s.pick("[", "(")+x+".."+y+s.pick("]", ")")))
	}
	return strings.Join(list, ", ")
}
