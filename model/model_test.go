package model

import (
	"reflect"
	"slices"
	"strconv"
	"strings"
	"testing"
	"unsafe"

	"tariff/api"
	"tariff/kind"
)

// small is the model of the chapter's examples: an input, and a decision with a text.
func small(text string, needs ...string) api.Model {
	return api.Model{Id: "m", Inputs: []api.Input{{Id: "i", Name: "x", Item: "number"}}, Decisions: []api.Decision{{Id: "d", Name: "y", Item: "number", Needs: needs, Text: text}}}
}

// sample is a valid model that has something of everything.
func sample() api.Model {
	of := func(name string) api.Type {
		k, _ := kind.Parse(name)
		return k
	}
	return api.Model{Id: "shop", Name: "Prices & \"more\"\n",
		Items:  []api.Item{{Name: "tier", Type: of("string"), Allowed: `"a", "b"`}, {Name: "amount", Type: of("number"), Allowed: "[0..1000]"}, {Name: "tags", Type: of("list<string>")}, {Name: "begin", Type: of("date"), Allowed: `>= @"2024-01-01"`}, {Name: "sure", Type: of("boolean"), Allowed: "-"}},
		Inputs: []api.Input{{Id: "i1", Name: "x", Item: "number"}, {Id: "i2", Name: "level", Item: "tier"}, {Id: "i3", Name: "words", Item: "tags"}, {Id: "i4", Name: "from", Item: "begin"}, {Id: "i5", Name: "what"}},
		Decisions: []api.Decision{
			{Id: "d1", Name: "rate", Item: "amount", Needs: []string{"d2", "i2"}, Table: api.Table{Policy: api.Unique,
				Ins: []api.Column{{Text: "double + 1", Item: "number"}, {Text: "level", Item: "tier"}}, Outs: []api.Column{{Text: "out", Item: "amount", Values: []string{"1", "-2"}}},
				Rules: []api.Rule{{Tests: []string{"< 10", `"a"`}, Says: []string{"double"}}, {Tests: []string{">= 10", "-"}, Says: []string{"0"}}}, Default: []string{"-1"}}},
			{Id: "d2", Name: "double", Item: "number", Needs: []string{"i1"}, Text: "x * 2"},
			{Id: "d3", Name: "notes", Item: "list<string>", Needs: []string{"i5", "i3", "d1"}, Table: api.Table{Policy: api.OutOrder,
				Ins: []api.Column{{Text: "what"}}, Outs: []api.Column{{Text: "note", Item: "string", Values: []string{`"hi"`, `"lo"`}}}, Rules: []api.Rule{{Tests: []string{"not(1, rate)"}, Says: []string{`"hi" + "!"`}}}}},
			{Id: "d4", Name: "both", Needs: []string{"d3"}, Table: api.Table{Policy: api.First,
				Outs: []api.Column{{Text: "a", Item: "sure"}, {Text: "b", Item: "list<any>"}}, Rules: []api.Rule{{Says: []string{"true", "notes"}}, {Says: []string{"null", "[]"}}}, Default: []string{"false", "null"}}},
			{Id: "d5", Name: "total", Item: "number", Table: api.Table{Policy: api.CollectSum, Ins: []api.Column{{Text: "1"}}, Outs: []api.Column{{Text: "n"}}, Rules: []api.Rule{{Tests: []string{"-"}, Says: []string{"1"}}}}},
		}}
}

// P17.2, P17.3: the chapter's examples.
func TestExamples(t *testing.T) {
	if e := Validate(api.Model{Id: "m"}); e != api.OK {
		t.Error(e)
	}
	for i, c := range []struct {
		m    api.Model
		want api.Errno
	}{
		{small("x * 2", "i"), api.OK}, {small("x*2", "i"), api.ErrForm}, {small("z", "i"), api.ErrName}, {small(`"a"`, "i"), api.ErrType}, {small("x * 2"), api.ErrName}, {small("x * 2", "d"), api.ErrCycle}, {small("x * 2", "i", "d"), api.ErrCycle}, {small("y", "d"), api.ErrCycle}, {small("x", "i", "i"), api.ErrTwice}, {small("x", "q"), api.ErrName}, {small("", "i"), api.ErrForm}, {small("1"), api.OK}, {api.Model{}, api.ErrForm},
	} {
		if e := Validate(c.m); e != c.want {
			t.Errorf("case %d: %v, want %v", i, e, c.want)
		}
		hold(t, c.m)
	}
	m := small("x * 2", "i")
	if l, e := Scope(m, "d"); e != api.OK || !slices.Equal(l, []api.Sym{{Name: "x", Type: api.Type{Kind: 2}}}) {
		t.Error(l, e)
	}
	if l, e := Plan(m); e != api.OK || !slices.Equal(l, []string{"d"}) {
		t.Error(l, e)
	}
	for _, id := range []string{"i", "m", "x", "y", "", "D", "d "} {
		if l, e := Scope(m, id); e != api.ErrName || len(l) != 0 {
			t.Errorf("Scope of %q: %v %v", id, l, e)
		}
	}
	if e, _ := hold(t, sample()); e != api.OK {
		t.Error(e)
	}
	l, e := Plan(sample())
	if e != api.OK || strings.Join(l, " ") != "d2 d1 d3 d4 d5" {
		t.Error(l, e)
	}
	scope, e := Scope(sample(), "d3")
	if e != api.OK || !slices.Equal(scope, []api.Sym{{Name: "what"}, {Name: "words", Type: api.Type{Kind: 5, Of: 3}}, {Name: "rate", Type: api.Type{Kind: 2}}}) {
		t.Error(scope, e)
	}
	if l, e := Scope(sample(), "d5"); e != api.OK || len(l) != 0 {
		t.Error(l, e)
	}
	if l, e := Plan(api.Model{Id: "m"}); e != api.OK || len(l) != 0 {
		t.Error(l, e)
	}
}

// P17.1: types by their names, and items.
func TestType(t *testing.T) {
	m := api.Model{Items: []api.Item{{Name: "tier", Type: api.Type{Kind: 3}, Allowed: `"a"`}, {Name: "tier", Type: api.Type{Kind: 2}, Allowed: "1"}, {Name: "list", Type: api.Type{Kind: 5, Of: 4}}, {Name: "number", Type: api.Type{Kind: 1}, Allowed: "true"}, {Name: "list<any>", Type: api.Type{Kind: 1}, Allowed: "true"}, {Type: api.Type{Kind: 4}, Allowed: "no tests"}, {Name: "odd", Type: api.Type{Kind: 9, Of: -1}, Allowed: "((("}, {Name: "two words", Type: api.Type{Kind: 1}}}}
	for _, c := range []struct {
		item, allowed string
		want          api.Type
		e             api.Errno
	}{
		{"", "", api.Type{}, api.OK}, {"any", "", api.Type{}, api.OK}, {"boolean", "", api.Type{Kind: 1}, api.OK}, {"number", "", api.Type{Kind: 2}, api.OK}, {"string", "", api.Type{Kind: 3}, api.OK}, {"date", "", api.Type{Kind: 4}, api.OK}, {"list<any>", "", api.Type{Kind: 5}, api.OK}, {"list<boolean>", "", api.Type{Kind: 5, Of: 1}, api.OK}, {"list<number>", "", api.Type{Kind: 5, Of: 2}, api.OK}, {"list<string>", "", api.Type{Kind: 5, Of: 3}, api.OK}, {"list<date>", "", api.Type{Kind: 5, Of: 4}, api.OK},
		{"tier", `"a"`, api.Type{Kind: 3}, api.OK}, {"list", "", api.Type{Kind: 5, Of: 4}, api.OK}, {"odd", "(((", api.Type{Kind: 9, Of: -1}, api.OK}, {"two words", "", api.Type{Kind: 1}, api.OK}, {"Tier", "", api.Type{}, api.ErrName}, {"tier ", "", api.Type{}, api.ErrName}, {"text", "", api.Type{}, api.ErrName}, {"Number", "", api.Type{}, api.ErrName}, {"list<list>", "", api.Type{}, api.ErrName}, {"list<tier>", "", api.Type{}, api.ErrName}, {" ", "", api.Type{}, api.ErrName}, {"\xff", "", api.Type{}, api.ErrName}, {strings.Repeat("x", 1<<20), "", api.Type{}, api.ErrName},
	} {
		for range 2 {
			if k, s, e := Type(m, c.item); k != c.want || s != c.allowed || e != c.e {
				t.Errorf("Type(%.20q): %v %q %v", c.item, k, s, e)
			}
		}
		if k, s, e := wantType(m, c.item); k != c.want || s != c.allowed || e != c.e {
			t.Errorf("wantType(%.20q): %v %q %v", c.item, k, s, e)
		}
	}
	if k, s, e := Type(api.Model{}, "tier"); k != (api.Type{}) || s != "" || e != api.ErrName {
		t.Error(k, s, e)
	}
}

// P17.1: the chapter's example, and what each text weighs.
func TestWeight(t *testing.T) {
	for i, c := range []struct {
		m    api.Model
		want int
	}{
		{api.Model{}, 40}, {api.Model{Id: "m"}, 41}, {api.Model{Id: "m", Name: "né"}, 44}, {api.Model{Items: make([]api.Item, 1)}, 80}, {api.Model{Items: []api.Item{{Name: "ab", Allowed: "cde"}}}, 85}, {api.Model{Inputs: make([]api.Input, 1)}, 100}, {api.Model{Inputs: []api.Input{{Id: "a", Name: "bc", Item: "def"}}}, 106}, {api.Model{Decisions: make([]api.Decision, 1)}, 120}, {api.Model{Decisions: []api.Decision{{Id: "a", Name: "bc", Item: "def", Text: "ghij", Needs: []string{"klmno", ""}}}}, 175},
		{api.Model{Decisions: []api.Decision{{Table: api.Table{Policy: 7, Ins: make([]api.Column, 1)}}}}, 160}, {api.Model{Decisions: []api.Decision{{Table: api.Table{Outs: make([]api.Column, 2)}}}}, 200}, {api.Model{Decisions: []api.Decision{{Table: api.Table{Outs: []api.Column{{Text: "a", Item: "bc", Values: []string{"def", ""}}}}}}}, 206}, {api.Model{Decisions: []api.Decision{{Table: api.Table{Ins: []api.Column{{Text: "a", Item: "bc", Values: []string{"def", ""}}}}}}}, 206}, {api.Model{Decisions: []api.Decision{{Table: api.Table{Rules: make([]api.Rule, 3)}}}}, 120}, {api.Model{Decisions: []api.Decision{{Table: api.Table{Rules: []api.Rule{{Tests: []string{"a", ""}}, {Says: []string{"bc", "d", ""}}}}}}}, 224}, {api.Model{Decisions: []api.Decision{{Text: "x", Table: api.Table{Default: []string{"a", ""}}}}}, 162},
	} {
		if n := Weight(c.m); n != c.want || n != wantWeight(c.m) {
			t.Errorf("case %d: %d, want %d", i, n, c.want)
		}
	}
}

// places is all that can be set in a thing: its numbers, its texts, and its lists.
func places(v reflect.Value) []reflect.Value {
	var list []reflect.Value
	switch v.Kind() {
	case reflect.Struct:
		for i := range v.NumField() {
			list = append(list, places(v.Field(i))...)
		}
	case reflect.Slice:
		list = append(list, v)
		for i := range v.Len() {
			list = append(list, places(v.Index(i))...)
		}
	default:
		list = append(list, v)
	}
	return list
}

// changed is the sample with something else in one place, in each of the ways that the place has; nil
// when there is no such place.
func changed(at int) []api.Model {
	m := sample()
	all := places(reflect.ValueOf(&m).Elem())
	if at >= len(all) {
		return nil
	}
	with := func(set func(reflect.Value)) api.Model {
		m := sample()
		set(places(reflect.ValueOf(&m).Elem())[at])
		return m
	}
	switch p := all[at]; p.Kind() {
	case reflect.Int:
		return []api.Model{with(func(v reflect.Value) { v.SetInt(v.Int() + 1) }), with(func(v reflect.Value) { v.SetInt(v.Int() - 1) })}
	case reflect.String:
		return []api.Model{with(func(v reflect.Value) { v.SetString(v.String() + "0") }), with(func(v reflect.Value) { v.SetString("0" + v.String()) })}
	}
	list := []api.Model{with(func(v reflect.Value) { v.Set(reflect.Append(v, reflect.Zero(v.Type().Elem()))) })}
	if n := all[at].Len(); n > 0 {
		list = append(list, with(func(v reflect.Value) { v.Set(v.Slice(0, n-1)) }), with(func(v reflect.Value) { v.Set(v.Slice(1, n)) }))
	}
	return list
}

// P17.1: each field and each list, its length and its order, make a difference.
func TestSame(t *testing.T) {
	n := 0
	for at := 0; changed(at) != nil; at++ {
		for _, m := range changed(at) {
			n++
			if Same(m, sample()) || Same(sample(), m) || !Same(m, m) || wantSame(m, sample()) {
				t.Errorf("place %d: %s", at, brief(m))
			}
			hold(t, m)
		}
	}
	if n < 300 {
		t.Error(n)
	}
	for _, change := range []func(m *api.Model){
		func(m *api.Model) { slices.Reverse(m.Items) }, func(m *api.Model) { slices.Reverse(m.Inputs) }, func(m *api.Model) { slices.Reverse(m.Decisions) }, func(m *api.Model) { slices.Reverse(m.Decisions[2].Needs) }, func(m *api.Model) { slices.Reverse(m.Decisions[0].Table.Ins) }, func(m *api.Model) { slices.Reverse(m.Decisions[3].Table.Outs) }, func(m *api.Model) { slices.Reverse(m.Decisions[0].Table.Rules) }, func(m *api.Model) { slices.Reverse(m.Decisions[0].Table.Rules[0].Tests) }, func(m *api.Model) { slices.Reverse(m.Decisions[3].Table.Rules[0].Says) }, func(m *api.Model) { slices.Reverse(m.Decisions[3].Table.Default) }, func(m *api.Model) { slices.Reverse(m.Decisions[0].Table.Outs[0].Values) }, func(m *api.Model) { m.Inputs[0].Id, m.Inputs[0].Name = m.Inputs[0].Name, m.Inputs[0].Id },
	} {
		m := sample()
		change(&m)
		if Same(m, sample()) || Same(sample(), m) || !Same(m, m) {
			t.Error(brief(m))
		}
		hold(t, m)
	}
	// A list that is nil is as good as an empty one.
	full := sample()
	for _, v := range places(reflect.ValueOf(&full).Elem()) {
		if v.Kind() == reflect.Slice && v.Len() == 0 {
			v.Set(reflect.MakeSlice(v.Type(), 0, 3))
		}
	}
	if !Same(full, sample()) || !Same(sample(), full) || Validate(full) != api.OK || !Same(sample(), sample()) || !Same(api.Model{}, api.Model{Items: []api.Item{}}) {
		t.Error(brief(full))
	}
}

// roomy is a copy of a thing, with something in the spare room of each list.
func roomy(v reflect.Value) reflect.Value {
	out := reflect.New(v.Type()).Elem()
	switch v.Kind() {
	case reflect.Struct:
		for i := range v.NumField() {
			out.Field(i).Set(roomy(v.Field(i)))
		}
	case reflect.Slice:
		out.Set(reflect.MakeSlice(v.Type(), v.Len()+2, v.Len()+2))
		for i := range v.Len() {
			out.Index(i).Set(roomy(v.Index(i)))
		}
		if v.Type().Elem().Kind() == reflect.String {
			out.Index(v.Len()).SetString("spare")
		}
		out.Set(out.Slice(0, v.Len()))
	case reflect.String:
		out.SetString(strings.Clone(v.String()))
	default:
		out.Set(v)
	}
	return out
}

// whole is a thing with the spare room of its lists.
func whole(v reflect.Value) []any {
	var list []any
	for _, p := range places(v) {
		if p.Kind() == reflect.Slice {
			list = append(list, p.Len(), p.Cap())
			list = append(list, leaves(p.Slice(0, p.Cap()))...)
		} else {
			list = append(list, p.Interface())
		}
	}
	return list
}

// P17.4: nothing is put into the spare room of an argument; a result shares no memory with an argument.
func TestNewMemory(t *testing.T) {
	m := roomy(reflect.ValueOf(sample())).Interface().(api.Model)
	before := whole(reflect.ValueOf(&m).Elem())
	if len(before) < 600 {
		t.Error(len(before))
	}
	owned := map[*byte]string{}
	for _, x := range leaves(reflect.ValueOf(m)) {
		if s, ok := x.(string); ok && s != "" {
			owned[unsafe.StringData(s)] = s
		}
	}
	fresh := func(s string) {
		t.Helper()
		if own, ok := owned[unsafe.StringData(s)]; ok && s != "" {
			t.Errorf("%q shares the memory of %q", s, own)
		}
	}
	plan, e := Plan(m)
	if len(plan) != 5 || e != api.OK {
		t.Error(plan, e)
	}
	for _, d := range m.Decisions {
		scope, e := Scope(m, d.Id)
		if len(scope) != len(d.Needs) || e != api.OK {
			t.Error(d.Id, scope, e)
		}
		want := slices.Clone(scope)
		for i := range scope {
			fresh(scope[i].Name)
			scope[:cap(scope)][i] = api.Sym{Name: "gone"}
		}
		if again, _ := Scope(m, d.Id); !slices.Equal(again, want) {
			t.Error(again, want)
		}
	}
	for i, id := range plan {
		fresh(id)
		plan[i] = "gone"
	}
	if again, _ := Plan(m); !slices.Equal(again, []string{"d2", "d1", "d3", "d4", "d5"}) {
		t.Error(again)
	}
	for _, i := range m.Items {
		_, allowed, e := Type(m, i.Name)
		if allowed != i.Allowed || e != api.OK {
			t.Error(allowed, e)
		}
		fresh(allowed)
	}
	if !Same(m, sample()) || Validate(m) != api.OK || Weight(m) != wantWeight(sample()) {
		t.Error(brief(m))
	}
	if after := whole(reflect.ValueOf(&m).Elem()); !slices.Equal(after, before) {
		t.Errorf("%v is changed to %v", before, after)
	}
}

// P1: no call panics, whatever it is given.
func TestOdd(t *testing.T) {
	long := strings.Repeat("x", 1<<20)
	for _, m := range []api.Model{
		{Id: long, Name: long, Items: []api.Item{{Name: long, Allowed: long}}}, {Id: "m", Items: make([]api.Item, 1000), Inputs: make([]api.Input, 1000)}, {Id: "m", Decisions: make([]api.Decision, 1000)}, {Id: "m", Decisions: make([]api.Decision, 1)}, {Id: "m", Decisions: []api.Decision{{Id: "d", Name: "d", Table: api.Table{Policy: 1 << 62, Outs: make([]api.Column, 1)}}}}, {Id: "m", Decisions: []api.Decision{{Id: "d", Name: "d", Table: api.Table{Policy: -1, Rules: make([]api.Rule, 100000)}}}}, {Id: "m", Decisions: []api.Decision{{Id: "d", Name: "d", Needs: slices.Repeat([]string{"d"}, 100000)}}}, {Id: "m", Decisions: []api.Decision{{Id: "d", Name: "d", Text: strings.Repeat("(", 19000)}}}, {Id: "m", Decisions: []api.Decision{{Id: "d", Name: "d", Text: strings.Repeat("[", 1000)}}},
	} {
		if e, _ := hold(t, m); e == api.OK {
			t.Error(brief(m))
		}
	}
}

// number is a name with a number.
func number(name string, n int) string {
	return name + strconv.Itoa(n)
}
