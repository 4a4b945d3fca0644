package model

import (
	"reflect"
	"slices"
	"testing"

	"tariff/api"
)

// source makes numbers, the same ones in every test run.
type source struct{ state uint64 }

func (s *source) below(n int) int {
	s.state = s.state*6364136223846793005 + 1442695040888963407
	x := s.state
	x ^= x >> 33
	x *= 0xff51afd7ed558ccd
	return int((x ^ x>>29) >> 1 % uint64(n))
}

// pick is one of the texts.
func (s *source) pick(list ...string) string {
	return list[s.below(len(list))]
}

// item is a random item's text: a type, or one of so many items.
func (s *source) item(items int) string {
	if items > 0 && s.below(2) == 0 {
		return number("t", s.below(items))
	}
	return s.pick(append(typeNames(), "", "number", "string")...)
}

// literal is a random literal of a type; of what has none, nothing.
func (s *source) literal(name string) string {
	switch name {
	case "any":
		return s.literal(s.pick("boolean", "number", "string", "date"))
	case "boolean":
		return s.pick("true", "false")
	case "number":
		return s.pick("0", "1", "-2", "3.5")
	case "string":
		return s.pick(`""`, `"a"`, `"b"`)
	case "date":
		return s.pick(`@"2024-01-01"`, `@"2024-02-29"`)
	}
	return ""
}

// expression is a random expression of a type.
func (s *source) expression(name string, scope []api.Sym) string {
	if len(scope) > 0 && s.below(2) == 0 {
		at := slices.IndexFunc(scope, func(x api.Sym) bool {
			k, _, _ := wantType(api.Model{}, name)
			return x.Type == k
		})
		if at >= 0 {
			return scope[at].Name
		}
	}
	switch literal := s.literal(name); {
	case s.below(9) == 0:
		return "null"
	case name == "number" && s.below(2) == 0:
		return literal + s.pick(" + ", " - ", " * ", " / ") + s.pick("1", "2 * 3")
	case literal != "":
		return literal
	}
	return s.pick("[]", "null", "{}.a")
}

// tests is random tests of a type.
func (s *source) tests(name string, scope []api.Sym) string {
	x := s.expression(name, scope)
	switch {
	case s.below(3) == 0 || name == "boolean" || len(name) > 6:
		return s.pick("-", x, "not("+x+")")
	case name == "any":
		return x
	}
	return s.pick("< ", "<= ", "> ", ">= ", "") + x
}

// some is random tests of literals of a type, or nothing.
func (s *source) some(name string) string {
	literal := s.literal(name)
	switch {
	case literal == "" || s.below(2) == 0:
		return ""
	case name == "any" || name == "boolean":
		return s.pick("-", literal, "not("+literal+")")
	}
	return s.pick("< ", ">= ", "") + literal
}

// model is a random model, valid for the most part.
func (s *source) model() api.Model {
	m := api.Model{Id: "m", Name: s.pick("", "n"), Items: fill(s.below(4), func(i int) api.Item {
		name := s.pick(typeNames()...)
		k, _, _ := wantType(api.Model{}, name)
		return api.Item{Name: number("t", i), Type: k, Allowed: s.some(name)}
	})}
	m.Inputs = fill(s.below(4), func(i int) api.Input {
		return api.Input{Id: number("i", i), Name: number("x", i), Item: s.item(len(m.Items))}
	})
	n := s.below(6)
	shift := s.below(max(n, 1)) // the decisions aren't all in the order in which they need one another
	for i := range n {
		d := api.Decision{Id: number("d", (i+shift)%n), Name: number("y", (i+shift)%n), Item: s.item(len(m.Items))}
		for k := range m.Inputs {
			if s.below(2) == 0 {
				d.Needs = append(d.Needs, m.Inputs[k].Id)
			}
		}
		for _, o := range m.Decisions {
			if s.below(3) == 0 {
				d.Needs = append(d.Needs, o.Id)
			}
		}
		s.decide(m, &d)
		m.Decisions = append(m.Decisions, d)
	}
	for i := range m.Decisions {
		k := s.below(i + 1)
		m.Decisions[i], m.Decisions[k] = m.Decisions[k], m.Decisions[i]
	}
	return m
}

// decide gives a decision its text or its table.
func (s *source) decide(m api.Model, d *api.Decision) {
	scope := wantScope(m, *d)
	if s.below(3) == 0 {
		d.Text = s.expression(typeName(m, d.Item), scope)
		return
	}
	x := &d.Table
	x.Policy = 1 + s.below(11)
	x.Ins = fill(s.below(3), func(int) api.Column {
		item := s.item(len(m.Items))
		return api.Column{Text: s.expression(typeName(m, item), scope), Item: item}
	})
	x.Outs = fill(1+s.below(5)/4, func(i int) api.Column {
		c := api.Column{Text: number("o", i), Item: s.item(len(m.Items))}
		if literal := s.literal(typeName(m, c.Item)); literal != "" && s.below(3) > 0 {
			c.Values = []string{literal}
		}
		return c
	})
	if s.below(4) > 0 {
		d.Item = ""
	}
	row := func() []string {
		return fill(len(x.Outs), func(i int) string { return s.expression(typeName(m, x.Outs[i].Item), scope) })
	}
	x.Rules = fill(s.below(4), func(int) api.Rule {
		return api.Rule{Tests: fill(len(x.Ins), func(i int) string { return s.tests(typeName(m, x.Ins[i].Item), scope) }), Says: row()}
	})
	if s.below(2) == 0 {
		x.Default = row()
	}
}

// spoil changes something of a model, at any place.
func (s *source) spoil(m *api.Model) {
	if n := len(m.Decisions); n > 0 && s.below(6) == 0 {
		d := &m.Decisions[s.below(n)]
		d.Needs = append(d.Needs[:len(d.Needs):len(d.Needs)], m.Decisions[s.below(n)].Id)
		return
	}
	all := places(reflect.ValueOf(m).Elem())
	switch v := all[s.below(len(all))]; v.Kind() {
	case reflect.Int:
		v.SetInt(v.Int() + int64(s.below(5)) - 2)
	case reflect.String:
		other := all[s.below(len(all))]
		if other.Kind() == reflect.String && s.below(2) == 0 {
			v.SetString(other.String())
		} else {
			v.SetString(s.pick("", "x0", "y1", "d0", "d1", "i0", "t0", "number", "list<string>", "1", `"a"`, "z", "1+1", "-", "true", "< 1"))
		}
	case reflect.Slice:
		n := v.Len()
		if n == 0 {
			v.Set(reflect.Append(v, reflect.Zero(v.Type().Elem())))
			return
		}
		at := s.below(n)
		if s.below(2) == 0 {
			v.Set(reflect.AppendSlice(v.Slice3(0, at, at), v.Slice(at+1, n)))
		} else {
			v.Set(reflect.Append(v.Slice3(0, n, n), v.Index(at)))
		}
	}
}

// P17.1, P17.2, P17.3: random models, and the same ones with something changed.
func TestRandom(t *testing.T) {
	s := &source{state: 17}
	errors, conditions := map[api.Errno]int{}, map[int]int{}
	for range 2500 {
		m := s.model()
		e, condition := hold(t, m)
		errors[e]++
		conditions[condition]++
		other := roomy(reflect.ValueOf(m)).Interface().(api.Model)
		for range 1 + s.below(2) {
			s.spoil(&other)
		}
		e, condition = hold(t, other)
		errors[e]++
		conditions[condition]++
		if Same(m, other) != wantSame(m, other) {
			t.Errorf("Same(%s, %s)", brief(m), brief(other))
		}
		for _, item := range []string{s.item(4), s.pick("t0", "t1", "t2", "x", "list<t0>")} {
			k, allowed, e := Type(other, item)
			if wantK, wantAllowed, wantE := wantType(other, item); k != wantK || allowed != wantAllowed || e != wantE {
				t.Errorf("Type(%s, %q): %v %q %v", brief(other), item, k, allowed, e)
			}
		}
	}
	for _, e := range []api.Errno{api.OK, api.ErrForm, api.ErrTwice, api.ErrName, api.ErrCycle, api.ErrType, api.ErrMiss} {
		if errors[e] < 50 {
			t.Error(errors, conditions)
		}
	}
	if conditions[0] < 1000 || conditions[5] < 50 || conditions[6] < 10 || conditions[7] < 200 {
		t.Error(errors, conditions)
	}
}
