package model

import (
	"fmt"
	"reflect"
	"regexp"
	"slices"
	"strings"
	"testing"

	"tariff/api"
	"tariff/check"
	"tariff/expr"
	"tariff/kind"
	"tariff/show"
)

// leaves is what a thing consists of: its numbers and texts in order, each list's length ahead of its elements.
func leaves(v reflect.Value) []any {
	var list []any
	switch v.Kind() {
	case reflect.Struct:
		for i := range v.NumField() {
			list = append(list, leaves(v.Field(i))...)
		}
	case reflect.Slice:
		list = append(list, v.Len())
		for i := range v.Len() {
			list = append(list, leaves(v.Index(i))...)
		}
	default:
		list = append(list, v.Interface())
	}
	return list
}

// wantSame is Same.
func wantSame(a, b api.Model) bool {
	return slices.Equal(leaves(reflect.ValueOf(a)), leaves(reflect.ValueOf(b)))
}

// wantWeight is Weight.
func wantWeight(m api.Model) int {
	sum := 0
	for _, x := range leaves(reflect.ValueOf(m)) {
		if s, ok := x.(string); ok {
			sum += 20 + len(s)
		}
	}
	return sum
}

// wantType is Type.
func wantType(m api.Model, item string) (api.Type, string, api.Errno) {
	switch item {
	case "", "any":
		return api.Type{}, "", api.OK
	case "boolean", "number", "string", "date":
		return api.Type{Kind: slices.Index([]string{"boolean", "number", "string", "date"}, item) + 1}, "", api.OK
	case "list<any>", "list<boolean>", "list<number>", "list<string>", "list<date>":
		of, _, _ := wantType(m, strings.TrimSuffix(item[5:], ">"))
		return api.Type{Kind: 5, Of: of.Kind}, "", api.OK
	}
	at := slices.IndexFunc(m.Items, func(i api.Item) bool { return i.Name == item })
	if at < 0 {
		return api.Type{}, "", api.ErrName
	}
	return m.Items[at].Type, m.Items[at].Allowed, api.OK
}

// typeName is the name of the type of an item's text.
func typeName(m api.Model, item string) string {
	t, _, _ := wantType(m, item)
	name, _ := kind.Name(t)
	return name
}

var names = regexp.MustCompile(`^[A-Za-z_][A-Za-z_0-9]{0,63}$`)

func isName(s string) bool {
	return names.MatchString(s) && !strings.Contains(" and between else false if in not null or then true ", " "+s+" ")
}

// isCanonical tells it of an expression, or (tests) of unary tests.
func isCanonical(s string, tests bool) bool {
	c, e := show.Canon(s, tests)
	return e == api.OK && c == s
}

// literals is how many of the nodes stand for a literal; negative if there is something that is none.
func literals(nodes []api.Node) int {
	n := 0
	for i, x := range nodes {
		switch {
		case slices.Contains([]int{api.OTrue, api.OFalse, api.ONum, api.OText, api.ODate}, x.Op):
			n++
		case x.Op == api.ONeg && i > 0 && nodes[i-1].Op == api.ONum:
		case x.Op < api.OAny:
			return -1
		}
	}
	return n
}

// wantLong is condition 1.
func wantLong(m api.Model) bool {
	long := max(len(m.Items), len(m.Inputs), len(m.Decisions)) > 40 || wantWeight(m) > 20000
	for _, d := range m.Decisions {
		x := d.Table
		long = long || len(d.Needs) > 20 || len(x.Ins) > 8 || len(x.Outs) > 8 || len(x.Default) > 8 || len(x.Rules) > 60
		for _, c := range slices.Concat(x.Ins, x.Outs) {
			long = long || len(c.Values) > 60
		}
		for _, r := range x.Rules {
			long = long || len(r.Tests) > 8 || len(r.Says) > 8
		}
	}
	return long
}

// wantForm is condition 2: it tells whether all of it holds.
func wantForm(m api.Model) bool {
	good := isName(m.Id) && len(m.Name) <= 1000 && !strings.ContainsFunc(m.Name, func(r rune) bool {
		return r < 32 && r != 9 && r != 10 && r != 13 || r == 0xFFFE || r == 0xFFFF
	}) && strings.ToValidUTF8(m.Name, "") == m.Name
	for _, i := range m.Items {
		_, e := kind.Name(i.Type)
		good = good && isName(i.Name) && !slices.Contains([]string{"any", "boolean", "number", "string", "date"}, i.Name) && e == api.OK
		if i.Allowed != "" {
			nodes, _ := expr.Tests(i.Allowed)
			good = good && isCanonical(i.Allowed, true) && literals(nodes) >= 0
		}
	}
	for _, i := range m.Inputs {
		good = good && isName(i.Id) && isName(i.Name)
	}
	for _, d := range m.Decisions {
		x := d.Table
		good = good && isName(d.Id) && isName(d.Name)
		if d.Text != "" {
			good = good && isCanonical(d.Text, false) && x.Policy == 0 && len(x.Ins)+len(x.Outs)+len(x.Rules)+len(x.Default) == 0
		} else {
			good = good && x.Policy >= 1 && x.Policy <= 11 && len(x.Outs) >= 1 && wantTableForm(x)
		}
	}
	return good
}

// wantTableForm is what condition 2 says of a table.
func wantTableForm(x api.Table) bool {
	good := len(x.Default) == 0 || len(x.Default) == len(x.Outs)
	for _, c := range x.Ins {
		good = good && isCanonical(c.Text, false) && len(c.Values) == 0
	}
	for i, c := range x.Outs {
		good = good && isName(c.Text)
		for k := range i {
			good = good && x.Outs[k].Text != c.Text
		}
		for j, s := range c.Values {
			nodes, _ := expr.Parse(s)
			good = good && isCanonical(s, false) && literals(nodes) == 1
			for k := range j {
				good = good && c.Values[k] != s
			}
		}
	}
	says := x.Default
	for _, r := range x.Rules {
		good = good && len(r.Tests) == len(x.Ins) && len(r.Says) == len(x.Outs)
		says = slices.Concat(says, r.Says)
		for _, s := range r.Tests {
			good = good && isCanonical(s, true)
		}
	}
	for _, s := range says {
		good = good && isCanonical(s, false)
	}
	return good
}

// most is how often the most frequent one of some texts occurs.
func most(list []string) int {
	n := 0
	count := map[string]int{}
	for _, s := range list {
		count[s]++
		n = max(n, count[s])
	}
	return n
}

// wantTwice is condition 3.
func wantTwice(m api.Model) bool {
	var items, ids, names []string
	for _, i := range m.Items {
		items = append(items, i.Name)
	}
	for _, i := range m.Inputs {
		ids, names = append(ids, i.Id), append(names, i.Name)
	}
	needs := 0
	for _, d := range m.Decisions {
		ids, names = append(ids, d.Id), append(names, d.Name)
		needs = max(needs, most(d.Needs))
	}
	return max(most(items), most(ids), most(names), needs) > 1
}

// wantUnknown is condition 4.
func wantUnknown(m api.Model) bool {
	ids := map[string]int{}
	var items, needs []string
	for _, i := range m.Inputs {
		ids[i.Id]++
		items = append(items, i.Item)
	}
	for _, d := range m.Decisions {
		ids[d.Id]++
		items = append(items, d.Item)
		needs = append(needs, d.Needs...)
		for _, c := range slices.Concat(d.Table.Ins, d.Table.Outs) {
			items = append(items, c.Item)
		}
	}
	noItem := func(s string) bool {
		_, _, e := wantType(m, s)
		return e != api.OK
	}
	return slices.ContainsFunc(items, noItem) || slices.ContainsFunc(needs, func(id string) bool { return ids[id] == 0 })
}

// wantPlan is the ids of the decisions in order; fewer than there are if some are in a cycle.
func wantPlan(m api.Model) []string {
	var plan []string
	isDecision := func(id string) bool {
		return slices.ContainsFunc(m.Decisions, func(d api.Decision) bool { return d.Id == id })
	}
	for range m.Decisions {
		for _, d := range m.Decisions {
			open := slices.ContainsFunc(d.Needs, func(id string) bool { return isDecision(id) && !slices.Contains(plan, id) })
			if !open && !slices.Contains(plan, d.Id) {
				plan = append(plan, d.Id)
				break
			}
		}
	}
	return plan
}

// wantMeet is whether two types meet, by their names.
func wantMeet(a, b string) bool {
	return a == b || a == "any" || b == "any" || strings.HasPrefix(a, "list") && strings.HasPrefix(b, "list") && (a == "list<any>" || b == "list<any>")
}

// wantScope is the scope of a decision.
func wantScope(m api.Model, d api.Decision) []api.Sym {
	var scope []api.Sym
	for _, id := range d.Needs {
		for _, i := range m.Inputs {
			if i.Id == id {
				k, _, _ := wantType(m, i.Item)
				scope = append(scope, api.Sym{Name: i.Name, Type: k})
			}
		}
		for _, o := range m.Decisions {
			if o.Id == id {
				k, _, _ := wantType(m, o.Item)
				scope = append(scope, api.Sym{Name: o.Name, Type: k})
			}
		}
	}
	return scope
}

// typed is the error of an expression in a scope whose type is to meet one.
func typed(s string, scope []api.Sym, want string) api.Errno {
	nodes, _ := expr.Parse(s)
	k, e := check.Expr(nodes, scope)
	name, _ := kind.Name(k)
	if e == api.OK && !wantMeet(name, want) {
		return api.ErrType
	}
	return e
}

// fit is the error of unary tests in a scope.
func fit(s string, scope []api.Sym, of string) api.Errno {
	nodes, _ := expr.Tests(s)
	k, _ := kind.Parse(of)
	return check.Tests(nodes, k, scope)
}

// wantLiterals is condition 6.
func wantLiterals(m api.Model) api.Errno {
	for _, i := range m.Items {
		if name, _ := kind.Name(i.Type); i.Allowed != "" && fit(i.Allowed, nil, name) != api.OK {
			return api.ErrType
		}
	}
	for _, d := range m.Decisions {
		for _, c := range d.Table.Outs {
			for _, s := range c.Values {
				if typed(s, nil, typeName(m, c.Item)) != api.OK {
					return api.ErrType
				}
			}
		}
	}
	return api.OK
}

// wantTable is the errors of a table, in order.
func wantTable(m api.Model, d api.Decision, scope []api.Sym) []api.Errno {
	var list []api.Errno
	x := d.Table
	says := func(row []string) {
		for i, s := range row {
			list = append(list, typed(s, scope, typeName(m, x.Outs[i].Item)))
		}
	}
	for _, c := range x.Ins {
		list = append(list, typed(c.Text, scope, typeName(m, c.Item)))
	}
	for _, r := range x.Rules {
		for i, s := range r.Tests {
			list = append(list, fit(s, scope, typeName(m, x.Ins[i].Item)))
		}
		says(r.Says)
	}
	says(x.Default)
	unless := func(good bool, e api.Errno) {
		if !good {
			list = append(list, e)
		}
	}
	one := len(x.Outs) == 1
	first := typeName(m, x.Outs[0].Item)
	values := 0
	for _, c := range x.Outs {
		values += len(c.Values)
	}
	unless(x.Policy < 8 || one, api.ErrType)
	unless(x.Policy < 8 || x.Policy > 10 || wantMeet(first, "number"), api.ErrType)
	unless(x.Policy != 3 && x.Policy != 6 || values > 0, api.ErrMiss)
	whole := "number"
	switch {
	case x.Policy <= 4 && one:
		whole = first
	case x.Policy <= 4:
		whole = "any"
	case x.Policy <= 7 && one && slices.Contains([]string{"boolean", "number", "string", "date"}, first):
		whole = "list<" + first + ">"
	case x.Policy <= 7:
		whole = "list<any>"
	}
	unless(wantMeet(whole, typeName(m, d.Item)), api.ErrType)
	return list
}

// wantValidate is Validate, and which of its conditions tells the error.
func wantValidate(m api.Model) (api.Errno, int) {
	switch {
	case wantLong(m):
		return api.ErrLong, 1
	case !wantForm(m):
		return api.ErrForm, 2
	case wantTwice(m):
		return api.ErrTwice, 3
	case wantUnknown(m):
		return api.ErrName, 4
	case len(wantPlan(m)) < len(m.Decisions):
		return api.ErrCycle, 5
	case wantLiterals(m) != api.OK:
		return api.ErrType, 6
	}
	for _, d := range m.Decisions {
		scope := wantScope(m, d)
		list := []api.Errno{}
		if d.Text != "" {
			list = append(list, typed(d.Text, scope, typeName(m, d.Item)))
		} else {
			list = wantTable(m, d, scope)
		}
		for _, e := range list {
			if e != api.OK {
				return e, 7
			}
		}
	}
	return api.OK, 0
}

// hold holds all functions against what is wanted of a model, and tells what is wanted of Validate.
func hold(t *testing.T, m api.Model) (api.Errno, int) {
	t.Helper()
	before := leaves(reflect.ValueOf(m))
	want, condition := wantValidate(m)
	if e := Validate(m); e != want {
		t.Errorf("Validate(%s): %v, want %v", brief(m), e, want)
	}
	if n := Weight(m); n != wantWeight(m) {
		t.Errorf("Weight(%s): %v, want %v", brief(m), n, wantWeight(m))
	}
	var plan []string
	if want == api.OK {
		plan = wantPlan(m)
	}
	if l, e := Plan(m); e != want || !slices.Equal(l, plan) {
		t.Errorf("Plan(%s): %v %v, want %v %v", brief(m), l, e, plan, want)
	}
	for _, id := range append(ids(m), "", "nothing", "number") {
		var scope []api.Sym
		wantErr := want
		if at := slices.IndexFunc(m.Decisions, func(d api.Decision) bool { return d.Id == id }); at < 0 && want == api.OK {
			wantErr = api.ErrName
		} else if want == api.OK {
			scope = wantScope(m, m.Decisions[at])
		}
		if l, e := Scope(m, id); e != wantErr || !slices.Equal(l, scope) {
			t.Errorf("Scope(%s, %q): %v %v, want %v %v", brief(m), id, l, e, scope, wantErr)
		}
	}
	if !slices.Equal(leaves(reflect.ValueOf(m)), before) {
		t.Errorf("%v is changed to %s", before, brief(m))
	}
	return want, condition
}

// ids is those of a model's inputs and decisions; of a great many, some.
func ids(m api.Model) []string {
	var list []string
	for _, i := range m.Inputs[:min(3, len(m.Inputs))] {
		list = append(list, i.Id)
	}
	for _, d := range m.Decisions[:min(5, len(m.Decisions))] {
		list = append(list, d.Id)
	}
	return list
}

// brief is the beginning of what a model looks like.
func brief(m api.Model) string {
	return fmt.Sprintf("%.2000s", fmt.Sprintf("%+v", m))
}
