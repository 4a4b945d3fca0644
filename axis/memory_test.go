package axis

import (
	"reflect"
	"slices"
	"strings"
	"testing"
	"unsafe"

	"tariff/api"
)

// roomy is a copy of a thing with memory of its own, and with something in the spare room of each list.
func roomy(v reflect.Value) reflect.Value {
	out := reflect.New(v.Type()).Elem()
	switch v.Kind() {
	case reflect.Struct:
		for i := range v.NumField() {
			out.Field(i).Set(roomy(v.Field(i)))
		}
	case reflect.Slice:
		out.Set(reflect.MakeSlice(v.Type(), v.Len()+2, v.Len()+2))
		for i := range v.Len() {
			out.Index(i).Set(roomy(v.Index(i)))
		}
		out.Set(out.Slice(0, v.Len()))
	case reflect.String:
		out.SetString(strings.Clone(v.String()))
	default:
		out.Set(v)
	}
	return out
}

// region is some bytes of memory.
type region struct{ from, to uintptr }

func (r region) meets(o region) bool {
	return r.from < o.to && o.from < r.to
}

// memory is the regions of the lists and of the texts that a thing consists of, spare room included.
func memory(v reflect.Value) (lists, texts []region) {
	parts := 0
	part := v.Field
	switch v.Kind() {
	case reflect.String:
		from := uintptr(unsafe.Pointer(unsafe.StringData(v.String())))
		return nil, []region{{from, from + uintptr(v.Len())}}
	case reflect.Struct:
		parts = v.NumField()
	case reflect.Slice:
		lists = append(lists, region{v.Pointer(), v.Pointer() + uintptr(v.Cap())*v.Type().Elem().Size()})
		v = v.Slice(0, v.Cap())
		parts, part = v.Len(), v.Index
	}
	for i := range parts {
		l, s := memory(part(i))
		lists, texts = append(lists, l...), append(texts, s...)
	}
	return lists, texts
}

// everything is a thing and the spare room of its lists, to be compared.
func everything(v reflect.Value) []any {
	var list []any
	switch v.Kind() {
	case reflect.Struct:
		for i := range v.NumField() {
			list = append(list, everything(v.Field(i))...)
		}
	case reflect.Slice:
		list = append(list, v.Len(), v.Cap())
		v = v.Slice(0, v.Cap())
		for i := range v.Len() {
			list = append(list, everything(v.Index(i))...)
		}
	default:
		list = append(list, v.Interface())
	}
	return list
}

// fresh tells of results that share memory with an argument, or of two lists of them that share some.
func fresh(t *testing.T, argument any, results ...any) {
	t.Helper()
	lists, texts := memory(reflect.ValueOf(argument))
	for _, x := range results {
		newLists, newTexts := memory(reflect.ValueOf(x))
		for _, r := range newLists {
			if slices.ContainsFunc(lists, r.meets) {
				t.Errorf("%s: a list shares memory", brief(x))
			}
			lists = append(lists, r)
		}
		for _, r := range newTexts {
			if slices.ContainsFunc(texts, r.meets) {
				t.Errorf("%s: a text shares memory", brief(x))
			}
		}
	}
}

// P22.3: arguments stay as they are, their spare room included, and results are new memory.
func TestMemory(t *testing.T) {
	s := &source{state: 223}
	for range 300 {
		kind := 1 + s.below(4)
		var values []api.Value
		for range 1 + s.below(9) {
			values = append(values, s.value(kind))
		}
		ends := roomy(reflect.ValueOf(values)).Interface().([]api.Value)
		before := everything(reflect.ValueOf(ends))
		segs, e := Cut(kind, ends)
		if _, f := Find(kind, ends, ends[0]); e != api.OK || f != api.OK {
			t.Error(brief(ends), e, f)
		}
		if _, f := Find(kind, ends[1:], api.Value{}); f != api.ErrType {
			t.Error(brief(ends), f)
		}
		fresh(t, ends, segs)
		if !reflect.DeepEqual(everything(reflect.ValueOf(ends)), before) {
			t.Error(brief(ends))
		}

		var rows [][]string
		for range 1 + s.below(4) {
			rows = append(rows, []string{s.tests(kind, 1<<30).text})
		}
		allowed := []api.Item{{Name: "low", Type: api.Type{Kind: kind}, Allowed: s.tests(kind, 1<<30).text}}
		m := roomy(reflect.ValueOf(table(allowed, []string{"low"}, rows...))).Interface().(api.Model)
		before = everything(reflect.ValueOf(m))
		segs, sets, e := Column(m, "t", 0)
		fresh(t, m, segs, sets)
		if !reflect.DeepEqual(everything(reflect.ValueOf(m)), before) || e != api.OK && e != api.ErrCannot {
			t.Error(brief(m), e)
		}
	}
}

// P22.1, P22.3: a value's empty lists may have room; that is left where it is.
func TestEmptyLists(t *testing.T) {
	room := make([]api.Value, 3)
	v := api.Value{Kind: api.Text, Text: "b", List: room[:0], Names: make([]string, 0, 2)}
	ends := []api.Value{v, v}
	segs, e := Cut(api.Text, ends)
	if e != api.OK || !reflect.DeepEqual(segs, []Seg{{text("b"), true}, {text(""), false}}) {
		t.Error(brief(segs), e)
	}
	fresh(t, ends, segs)
	if at, e := Find(api.Text, ends, v); at != 0 || e != api.OK {
		t.Error(at, e)
	}
}
