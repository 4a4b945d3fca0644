package dsl

import (
	"reflect"
	"slices"
	"strings"
	"testing"
	"unsafe"

	"tariff/api"
	"tariff/model"
)

// roomy is a copy of a thing with memory of its own, and with something in the spare room of each list.
func roomy(v reflect.Value) reflect.Value {
	out := reflect.New(v.Type()).Elem()
	switch v.Kind() {
	case reflect.Struct:
		for i := range v.NumField() {
			out.Field(i).Set(roomy(v.Field(i)))
		}
	case reflect.Slice:
		out.Set(reflect.MakeSlice(v.Type(), v.Len()+2, v.Len()+2))
		for i := range v.Len() {
			out.Index(i).Set(roomy(v.Index(i)))
		}
		spare := out.Index(v.Len())
		for spare.Kind() == reflect.Struct {
			spare = spare.Field(0)
		}
		if spare.Kind() == reflect.String {
			spare.SetString("spare")
		}
		out.Set(out.Slice(0, v.Len()))
	case reflect.String:
		out.SetString(strings.Clone(v.String()))
	default:
		out.Set(v)
	}
	return out
}

// region is some bytes of memory.
type region struct{ from, to uintptr }

func (r region) meets(o region) bool {
	return r.from < o.to && o.from < r.to
}

// memory is the regions of the lists and of the texts that a thing consists of, spare room included.
func memory(v reflect.Value) (lists, texts []region) {
	parts := 0
	part := v.Field
	switch v.Kind() {
	case reflect.String:
		from := uintptr(unsafe.Pointer(unsafe.StringData(v.String())))
		return nil, []region{{from, from + uintptr(v.Len())}}
	case reflect.Struct:
		parts = v.NumField()
	case reflect.Slice:
		lists = append(lists, region{v.Pointer(), v.Pointer() + uintptr(v.Cap())*v.Type().Elem().Size()})
		v = v.Slice(0, v.Cap())
		parts, part = v.Len(), v.Index
	}
	for i := range parts {
		l, s := memory(part(i))
		lists, texts = append(lists, l...), append(texts, s...)
	}
	return lists, texts
}

// everything is a thing and the spare room of its lists, to be compared.
func everything(v reflect.Value) []any {
	var list []any
	switch v.Kind() {
	case reflect.Struct:
		for i := range v.NumField() {
			list = append(list, everything(v.Field(i))...)
		}
	case reflect.Slice:
		list = append(list, v.Len(), v.Cap())
		v = v.Slice(0, v.Cap())
		for i := range v.Len() {
			list = append(list, everything(v.Index(i))...)
		}
	default:
		list = append(list, v.Interface())
	}
	return list
}

// fresh tells of a result that shares memory with an argument, or of two lists of it that share some.
func fresh(t *testing.T, result, argument any) {
	t.Helper()
	lists, texts := memory(reflect.ValueOf(result))
	oldLists, oldTexts := memory(reflect.ValueOf(argument))
	for i, r := range lists {
		if slices.ContainsFunc(append(lists[:i:i], oldLists...), r.meets) {
			t.Errorf("%s: a list shares memory", brief(result))
		}
	}
	for _, r := range texts {
		if slices.ContainsFunc(oldTexts, r.meets) {
			t.Errorf("%s: a text shares memory", brief(result))
		}
	}
	if len(lists) == 0 || len(texts) == 0 {
		t.Error(len(lists), len(texts))
	}
}

// P21.5: arguments stay as they are, their spare room included, and results are new memory.
func TestMemory(t *testing.T) {
	s := &source{state: 215}
	for _, m := range append(fill(300, func(int) api.Model { return s.model() }), exampleModel()) {
		m = roomy(reflect.ValueOf(m)).Interface().(api.Model)
		before := everything(reflect.ValueOf(m))
		b, e := Write(m)
		if e != api.OK || !slices.Equal(everything(reflect.ValueOf(m)), before) {
			t.Errorf("%s: %v", brief(m), e)
		}
		back, _, e := Read(b)
		if e != api.OK || !model.Same(back, m) {
			t.Errorf("%s: %s %v", brief(m), brief(back), e)
		}
		fresh(t, back, b)

		m.Id = ""
		before = everything(reflect.ValueOf(m))
		if _, e := Write(m); e != api.ErrForm || !slices.Equal(everything(reflect.ValueOf(m)), before) {
			t.Errorf("%s: %v", brief(m), e)
		}
	}
	for _, b := range []string{"a | b", "a", " \"a|b\" |c", "a|"} {
		for _, sign := range []string{"|", "", "a"} {
			fresh(t, Split(b, sign), []string{b, sign})
		}
	}
}

// P21.5: a call's result is the same one whatever has been done with another's.
func TestAgain(t *testing.T) {
	m, _, _ := Read(example)
	m.Decisions[1].Table.Rules[0].Says[0] = "1"
	m.Decisions[1].Table.Outs[0].Values[0] = "1"
	m.Decisions[0].Needs[0] = "z"
	if again, _, e := Read(example); !model.Same(again, exampleModel()) || e != api.OK {
		t.Error(brief(again), e)
	}
}
