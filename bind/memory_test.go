package bind

import (
	"reflect"
	"slices"
	"strings"
	"testing"
	"unsafe"

	"tariff/api"
	"tariff/model"
)

// roomy is a copy of a thing with memory of its own, and with something in the spare room of each list.
func roomy(v reflect.Value) reflect.Value {
	out := reflect.New(v.Type()).Elem()
	switch v.Kind() {
	case reflect.Struct:
		for i := range v.NumField() {
			out.Field(i).Set(roomy(v.Field(i)))
		}
	case reflect.Slice:
		out.Set(reflect.MakeSlice(v.Type(), v.Len()+2, v.Len()+2))
		for i := range v.Len() {
			out.Index(i).Set(roomy(v.Index(i)))
		}
		spare := out.Index(v.Len())
		for spare.Kind() == reflect.Struct {
			spare = spare.Field(0)
		}
		if spare.Kind() == reflect.String {
			spare.SetString("spare")
		}
		out.Set(out.Slice(0, v.Len()))
	case reflect.String:
		out.SetString(strings.Clone(v.String()))
	default:
		out.Set(v)
	}
	return out
}

// region is some bytes of memory.
type region struct{ from, to uintptr }

func (r region) meets(o region) bool {
	return r.from < o.to && o.from < r.to
}

// memory is the regions of the lists and of the texts that a thing consists of, spare room included.
func memory(v reflect.Value) (lists, texts []region) {
	parts := 0
	part := v.Field
	switch v.Kind() {
	case reflect.String:
		from := uintptr(unsafe.Pointer(unsafe.StringData(v.String())))
		return nil, []region{{from, from + uintptr(v.Len())}}
	case reflect.Struct:
		parts = v.NumField()
	case reflect.Slice:
		lists = append(lists, region{v.Pointer(), v.Pointer() + uintptr(v.Cap())*v.Type().Elem().Size()})
		v = v.Slice(0, v.Cap())
		parts, part = v.Len(), v.Index
	}
	for i := range parts {
		l, s := memory(part(i))
		lists, texts = append(lists, l...), append(texts, s...)
	}
	return lists, texts
}

// everything is a thing and the spare room of its lists, to be compared.
func everything(v reflect.Value) []any {
	var list []any
	switch v.Kind() {
	case reflect.Struct:
		for i := range v.NumField() {
			list = append(list, everything(v.Field(i))...)
		}
	case reflect.Slice:
		list = append(list, v.Len(), v.Cap())
		v = v.Slice(0, v.Cap())
		for i := range v.Len() {
			list = append(list, everything(v.Index(i))...)
		}
	default:
		list = append(list, v.Interface())
	}
	return list
}

// fresh tells of a result that shares memory with an argument, or of two lists of it that share some.
func fresh(t *testing.T, result, argument any) {
	t.Helper()
	lists, texts := memory(reflect.ValueOf(result))
	oldLists, oldTexts := memory(reflect.ValueOf(argument))
	for i, r := range lists {
		if slices.ContainsFunc(append(lists[:i:i], oldLists...), r.meets) {
			t.Errorf("%s: a list shares memory", brief(result))
		}
	}
	for _, r := range texts {
		if slices.ContainsFunc(oldTexts, r.meets) {
			t.Errorf("%s: a text shares memory", brief(result))
		}
	}
	if len(lists) == 0 || len(texts) < 2 {
		t.Error(len(lists), len(texts))
	}
}

// P20.5: arguments stay as they are, their spare room included, and results are new memory.
func TestMemory(t *testing.T) {
	s := &source{state: 22}
	models := append(fill(200, func(int) api.Model { return s.model() }), sample(), exampleModel())
	for _, m := range models {
		m = roomy(reflect.ValueOf(m)).Interface().(api.Model)
		before := everything(reflect.ValueOf(m))
		l, e := ToTree(m)
		doc, e2 := WriteXML(m)
		if e != api.OK || e2 != api.OK || !slices.Equal(everything(reflect.ValueOf(m)), before) {
			t.Errorf("%s: %v %v", brief(m), e, e2)
		}
		fresh(t, l, m)

		l = roomy(reflect.ValueOf(l)).Interface().([]api.Elem)
		before = everything(reflect.ValueOf(l))
		back, _, e := FromTree(l)
		if e != api.OK || !slices.Equal(everything(reflect.ValueOf(l)), before) {
			t.Errorf("%s: %v", brief(l), e)
		}
		fresh(t, back, l)
		top := nest(l)
		s.change(top)
		l = roomy(reflect.ValueOf(flat(top))).Interface().([]api.Elem)
		before = everything(reflect.ValueOf(l))
		if _, _, e := FromTree(l); !slices.Equal(everything(reflect.ValueOf(l)), before) {
			t.Errorf("%s: %v", brief(l), e)
		}

		read, _, e := ReadXML(doc)
		if e != api.OK || !model.Same(read, m) || !model.Same(back, m) {
			t.Errorf("%s: %s %s %v", brief(m), brief(back), brief(read), e)
		}
		fresh(t, read, doc)
	}
}
