package run

import (
	"fmt"
	"reflect"
	"slices"
	"strings"
	"testing"
	"unsafe"

	"tariff/api"
	"tariff/model"
)

// source makes numbers, the same ones in every test run.
type source struct{ state uint64 }

func (s *source) below(n int) int {
	s.state = s.state*6364136223846793005 + 1442695040888963407
	x := s.state
	x ^= x >> 33
	x *= 0xff51afd7ed558ccd
	return int((x ^ x>>29) >> 1 % uint64(n))
}

// pick is one of the texts.
func (s *source) pick(list ...string) string {
	return list[s.below(len(list))]
}

// filled is a text with a name for each X.
func (s *source) filled(text string, names []string) string {
	for strings.Contains(text, "X") {
		text = strings.Replace(text, "X", s.pick(append(names, "1", "2", `"a"`)...), 1)
	}
	return text
}

func (s *source) item() string {
	if s.below(3) > 0 {
		return ""
	}
	return s.pick("any", "number", "string", "boolean", "list<number>", "list<any>", "low", "mixed", "tier", "odd")
}

func (s *source) expression(names []string) string {
	return s.filled(s.pick("X", "X", "X", "X", "1", "2", `"a"`, "X + X", "X / X", "X - X", "[X, X]", "{a: X}", "X.a", "if X > 1 then X else X", "X = X", "X in (X, < 2)", "count(X)", "append(X, X)", "sum([X, X])", "null", "0", "-1", "3", `"b"`, "true", zero, far, over, "X * 9999999999999999999999999999999999"), names)
}

func (s *source) tests(names []string) string {
	return s.filled(s.pick("-", "-", "-", "-", "X", "X", "not(X)", "< X", ">= X", "[1..X)", "X, X", "1", "not(1, 2)", "< 2", "null", "X / 0", "> X / X", `< "b"`), names)
}

// fill is a list of so many things.
func fill[T any](n int, thing func(i int) T) []T {
	var list []T
	for i := range n {
		list = append(list, thing(i))
	}
	return list
}

// decision is a random decision over some names, which need not be valid.
func (s *source) decision(names []string) api.Decision {
	d := api.Decision{Item: s.item()}
	if s.below(3) == 0 {
		d.Text = s.expression(names)
		return d
	}
	t := api.Table{Policy: max(1, s.below(14)-2)}
	t.Ins = fill(s.below(3), func(int) api.Column { return api.Column{Text: s.expression(names), Item: s.item()} })
	outs := 1 + s.below(5)/4
	t.Outs = fill(outs, func(i int) api.Column { return api.Column{Text: fmt.Sprint("o", i), Item: s.item()} })
	if s.below(2) == 0 {
		t.Outs[s.below(outs)].Values = []string{"2", `"a"`, "1", "-1"}[s.below(4):]
	}
	says := func(int) string { return s.expression(names) }
	t.Rules = fill(s.below(5), func(int) api.Rule {
		return api.Rule{Tests: fill(len(t.Ins), func(int) string { return s.tests(names) }), Says: fill(outs, says)}
	})
	if s.below(2) == 0 {
		t.Default = fill(outs, says)
	}
	d.Table = t
	return d
}

// model is a random valid model. Its decisions don't come in the order in which they need one another.
func (s *source) model() api.Model {
	m := api.Model{Id: "m", Items: items()}
	m.Inputs = fill(s.below(5), func(i int) api.Input {
		return api.Input{Id: fmt.Sprint("i", i), Name: fmt.Sprint("x", i), Item: s.item()}
	})
	for i := range 1 + s.below(7) {
		var needs, names []string
		for _, x := range m.Inputs {
			if s.below(2) == 0 {
				needs, names = append(needs, x.Id), append(names, x.Name)
			}
		}
		for _, x := range m.Decisions {
			if s.below(2) == 0 {
				at := s.below(len(needs) + 1)
				needs, names = slices.Insert(needs, at, x.Id), slices.Insert(names, at, x.Name)
			}
		}
		for tries := 0; tries < 60; tries++ {
			d := s.decision(names)
			d.Id, d.Name, d.Needs = fmt.Sprint("d", i), fmt.Sprint("y", i), needs
			m.Decisions = append(m.Decisions, d)
			if model.Validate(m) == api.OK {
				break
			}
			m.Decisions = m.Decisions[:len(m.Decisions)-1]
		}
	}
	s.shuffle(&m)
	return m
}

// shuffle puts the inputs, the decisions and their needs in another order.
func (s *source) shuffle(m *api.Model) {
	mix(s, m.Inputs)
	mix(s, m.Decisions)
	for i := range m.Decisions {
		m.Decisions[i].Needs = slices.Clone(m.Decisions[i].Needs)
		mix(s, m.Decisions[i].Needs)
	}
}

func mix[T any](s *source, list []T) {
	for i := range list {
		k := s.below(i + 1)
		list[i], list[k] = list[k], list[i]
	}
}

// names is a random context of some names, which may lack some, and have others.
func (s *source) names(list []string) api.Value {
	v := api.Value{Kind: api.Ctx}
	for _, name := range append(list, "other") {
		if s.below(8) > 0 {
			v.Names = append(v.Names, name)
			v.List = append(v.List, read(s.pick("null", "0", "1", "2", "2", "1", "-1", "0.5", `"a"`, `"b"`, "true", "[1, 2]", `["a"]`, "{a: 1}", "9999999999999999999999999999999999")))
		}
	}
	return v
}

// P3, P19.1, P19.2, P19.3: random models with random inputs, and the same ones in another order.
func TestRandom(t *testing.T) {
	s := &source{state: 19}
	seen, local := map[api.Errno]int{}, map[api.Errno]int{}
	for range 500 {
		m := s.model()
		names := fill(len(m.Inputs), func(i int) string { return m.Inputs[i].Name })
		for _, d := range m.Decisions {
			names = append(names, d.Name)
		}
		for range 2 {
			inputs := s.names(names)
			for _, e := range hold(t, m, inputs) {
				seen[e]++
			}
			for _, d := range m.Decisions {
				local[holdLocal(t, m, d, s.names(names))]++
			}
			other := m
			other.Inputs, other.Decisions = slices.Clone(m.Inputs), slices.Clone(m.Decisions)
			s.shuffle(&other)
			for _, d := range m.Decisions {
				v, e := Eval(m, d.Id, inputs)
				w, e2 := Eval(other, d.Id, inputs)
				if (e == api.OK) != (e2 == api.OK) || print(v) != print(w) {
					t.Errorf("Eval(%v, %s, %s): %s, and in another order %s", m, d.Id, print(inputs), answer(v, e), answer(w, e2))
				}
			}
		}
	}
	for _, count := range []map[api.Errno]int{seen, local} {
		for e, least := range map[api.Errno]int{api.OK: 500, api.ErrOver: 20, api.ErrZero: 50, api.ErrType: 50, api.ErrUnique: 30, api.ErrAny: 5, api.ErrInput: 20, api.ErrFar: 20} {
			if count[e] < least {
				t.Error(seen, local)
			}
		}
	}
}

// memory is where the lists and the texts of a value lie, and how often.
func memory(v api.Value, seen map[any]int) {
	if cap(v.List) > 0 {
		seen[&v.List[:1][0]]++
	}
	if cap(v.Names) > 0 {
		seen[&v.Names[:1][0]]++
	}
	for _, s := range append(slices.Clone(v.Names), v.Text) {
		if s != "" {
			seen[unsafe.StringData(s)]++
		}
	}
	for _, w := range v.List {
		memory(w, seen)
	}
}

// roomy is a copy of a thing, with something in the spare room of each list.
func roomy(v reflect.Value) reflect.Value {
	out := reflect.New(v.Type()).Elem()
	switch v.Kind() {
	case reflect.Struct:
		for i := range v.NumField() {
			out.Field(i).Set(roomy(v.Field(i)))
		}
	case reflect.Slice:
		out.Set(reflect.MakeSlice(v.Type(), v.Len()+2, v.Len()+2))
		for i := range v.Len() {
			out.Index(i).Set(roomy(v.Index(i)))
		}
		if v.Type().Elem().Kind() == reflect.String {
			out.Index(v.Len()).SetString("spare")
		}
		out.Set(out.Slice(0, v.Len()))
	case reflect.String:
		out.SetString(strings.Clone(v.String()))
	default:
		out.Set(v)
	}
	return out
}

// whole is a thing with the spare room of its lists, as a text; texts is where its texts lie.
func whole(v reflect.Value, texts map[any]int) string {
	switch v.Kind() {
	case reflect.Struct:
		s := ""
		for i := range v.NumField() {
			s += whole(v.Field(i), texts) + ";"
		}
		return s
	case reflect.Slice:
		s := fmt.Sprint(v.Len(), "/", v.Cap(), "[")
		for i := range v.Cap() {
			s += whole(v.Slice(0, v.Cap()).Index(i), texts) + ","
		}
		return s + "]"
	case reflect.String:
		if v.Len() > 0 {
			texts[unsafe.StringData(v.String())]++
		}
	}
	return fmt.Sprintf("%v", v)
}

// P19.4: nothing is put into the spare room of an argument; a result shares no memory with an
// argument, and no two lists of one result share any.
func TestNewMemory(t *testing.T) {
	m := web("x; y", `a: x < x`, "b: [x, y, x] < x y", "c: [a, b, a] < a b", `d: "text"`, "e: {k: d, l: a} < d a", "f: x < x", "g: null")
	for i, policy := range []int{api.First, api.Collect, api.OutOrder} {
		d := valued(table(policy, "x; a", "o; p", "", "-; - => a; x", "-; - => b; y"), `"some text"`)
		d.Id, d.Name, d.Needs = fmt.Sprint("T", i), fmt.Sprint("t", i), []string{"X", "Y", "A", "B"}
		m.Decisions = append(m.Decisions, d)
	}
	m = roomy(reflect.ValueOf(m)).Interface().(api.Model)
	names := roomy(reflect.ValueOf(read(`{x: ["some text", [1]], y: {m: "more"}, a: ["own text"], b: {n: "n"}, d: "d"}`))).Interface().(api.Value)
	texts := map[any]int{}
	before := whole(reflect.ValueOf(m), texts) + whole(reflect.ValueOf(names), texts)
	memory(names, texts)
	fresh := func(what string, values ...api.Value) {
		t.Helper()
		mine := map[any]int{}
		for _, v := range values {
			memory(v, mine)
		}
		for p, times := range mine {
			if times > 1 || texts[p] > 0 {
				t.Errorf("%s shares memory", what)
			}
		}
	}
	for _, d := range m.Decisions {
		v, e := Eval(m, d.Id, names)
		w, e2 := Local(m, d.Id, names)
		if e != api.OK || e2 != api.OK {
			t.Error(d.Id, e, e2)
		}
		fresh("Eval "+d.Id, v, w)
		Matches(m, d.Id, names)
	}
	all, e := All(m, names)
	if e != api.OK || len(all) != len(m.Decisions) {
		t.Error(all, e)
	}
	var values []api.Value
	for _, o := range all {
		values = append(values, o.Value, api.Value{Text: o.Id})
	}
	fresh("All", values...)
	want := outcomes(all, e)
	for i := range all {
		for k := range all[i].Value.List {
			all[i].Value.List[k] = api.Value{Kind: 9}
		}
		all[i] = Outcome{}
	}
	if got := outcomes(All(m, names)); got != want {
		t.Errorf("%s, and then %s", want, got)
	}
	if after := whole(reflect.ValueOf(m), texts) + whole(reflect.ValueOf(names), texts); after != before {
		t.Errorf("%s is changed to %s", before, after)
	}
}
