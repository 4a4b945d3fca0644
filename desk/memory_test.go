package desk

import (
	"reflect"
	"slices"
	"strings"
	"testing"
	"unsafe"

	"tariff/api"
	"tariff/dsl"
	"tariff/model"
)

// roomy is a copy of a thing with memory of its own, and with something in the spare room of each list.
func roomy(v reflect.Value) reflect.Value {
	out := reflect.New(v.Type()).Elem()
	switch v.Kind() {
	case reflect.Struct:
		for i := range v.NumField() {
			out.Field(i).Set(roomy(v.Field(i)))
		}
	case reflect.Slice:
		out.Set(reflect.MakeSlice(v.Type(), v.Len()+2, v.Len()+2))
		for i := range v.Len() {
			out.Index(i).Set(roomy(v.Index(i)))
		}
		spare := out.Index(v.Len())
		for spare.Kind() == reflect.Struct {
			spare = spare.Field(0)
		}
		if spare.Kind() == reflect.String {
			spare.SetString("spare")
		}
		out.Set(out.Slice(0, v.Len()))
	case reflect.String:
		out.SetString(strings.Clone(v.String()))
	default:
		out.Set(v)
	}
	return out
}

// region is some bytes of memory.
type region struct{ from, to uintptr }

func (r region) meets(o region) bool {
	return r.from < o.to && o.from < r.to
}

// memory is the regions of the lists and of the texts that a thing consists of, spare room included.
func memory(v reflect.Value) (lists, texts []region) {
	parts := 0
	part := v.Field
	switch v.Kind() {
	case reflect.String:
		from := uintptr(unsafe.Pointer(unsafe.StringData(v.String())))
		return nil, []region{{from, from + uintptr(v.Len())}}
	case reflect.Struct:
		parts = v.NumField()
	case reflect.Slice:
		lists = append(lists, region{v.Pointer(), v.Pointer() + uintptr(v.Cap())*v.Type().Elem().Size()})
		v = v.Slice(0, v.Cap())
		parts, part = v.Len(), v.Index
	}
	for i := range parts {
		l, s := memory(part(i))
		lists, texts = append(lists, l...), append(texts, s...)
	}
	return lists, texts
}

// everything is a thing and the spare room of its lists, to be compared.
func everything(v reflect.Value) []any {
	var list []any
	switch v.Kind() {
	case reflect.Struct:
		for i := range v.NumField() {
			list = append(list, everything(v.Field(i))...)
		}
	case reflect.Slice:
		list = append(list, v.Len(), v.Cap())
		v = v.Slice(0, v.Cap())
		for i := range v.Len() {
			list = append(list, everything(v.Index(i))...)
		}
	default:
		list = append(list, v.Interface())
	}
	return list
}

// fresh tells of a result that shares memory with an argument, or of two lists of it that share some.
func fresh(t *testing.T, what string, result any, arguments ...any) {
	t.Helper()
	lists, texts := memory(reflect.ValueOf(result))
	var oldLists, oldTexts []region
	for _, a := range arguments {
		l, s := memory(reflect.ValueOf(a))
		oldLists, oldTexts = append(oldLists, l...), append(oldTexts, s...)
	}
	for i, r := range lists {
		if slices.ContainsFunc(append(lists[:i:i], oldLists...), r.meets) {
			t.Errorf("%q: a list shares memory", what)
		}
	}
	for _, r := range texts {
		if slices.ContainsFunc(oldTexts, r.meets) {
			t.Errorf("%q: a text shares memory", what)
		}
	}
}

// P27.4: arguments stay as they are, their spare room included, and results are new memory.
func TestMemory(t *testing.T) {
	s := &source{state: 275}
	for range 150 {
		m := roomy(reflect.ValueOf(s.model())).Interface().(api.Model)
		before := everything(reflect.ValueOf(m))
		lines := fill(8, func(int) string { return strings.Clone(s.line(m)) })
		lines = append(lines, "again xml", "again dsl", "plan", "what", "")
		for _, line := range lines {
			answer, now, e := Command(m, line)
			if e != api.OK || !model.Same(now, m) {
				t.Errorf("%q: %v", line, e)
			}
			fresh(t, line, now, m, line)
			fresh(t, line, answer, m, line)
		}
		for _, command := range []string{"xml", "dsl"} {
			b, _, _ := Command(m, command)
			lines := roomy(reflect.ValueOf(lines)).Interface().([]string)
			kept := everything(reflect.ValueOf(lines))
			answers, e := Play(b, lines)
			if e != api.OK || len(answers) != len(lines) || !reflect.DeepEqual(everything(reflect.ValueOf(lines)), kept) {
				t.Errorf("%s%q: %v", b, lines, e)
			}
			fresh(t, b, answers, b, lines)
			loaded, e := Load(b)
			if e != api.OK || !model.Same(loaded, m) {
				t.Errorf("%s: %v", b, e)
			}
			fresh(t, b, loaded, b)
		}
		if !reflect.DeepEqual(everything(reflect.ValueOf(m)), before) {
			text, _ := dsl.Write(m)
			t.Error(text)
		}
		wrong := m
		wrong.Id = "1"
		before = everything(reflect.ValueOf(wrong))
		if _, _, e := Command(wrong, "plan"); e != api.ErrForm || !reflect.DeepEqual(everything(reflect.ValueOf(wrong)), before) {
			t.Error(wrong.Id, e)
		}
	}
}

// P27.4: what is done with the model behind a command changes neither the one ahead of it nor a later one.
func TestKept(t *testing.T) {
	for _, line := range []string{"plan", "again xml", "again dsl", "what", "eval z {}"} {
		m := read(t, shop)
		_, now, e := Command(m, line)
		if e != api.OK {
			t.Error(line, e)
		}
		now.Items[0].Allowed = "1"
		now.Inputs[0].Id = "z"
		d := now.Decisions
		d[0].Needs[0], d[1].Table.Ins[0].Text, d[1].Table.Outs[0].Item, d[1].Table.Default[0] = "z", "z", "z", "z"
		d[1].Table.Rules[0].Tests[0], d[1].Table.Rules[0].Says[0], d[8].Table.Outs[0].Values[0] = "z", "z", "z"
		d[2], d[3] = d[3], d[2]
		if answer, _, e := Command(m, "dsl"); answer != shop || e != api.OK {
			t.Error(line, answer, e)
		}
	}
}
