package sweep

import (
	"reflect"
	"slices"
	"strings"
	"testing"
	"unsafe"

	"tariff/api"
)

// roomy is a copy of a thing with memory of its own, and with something in the spare room of each list.
func roomy(v reflect.Value) reflect.Value {
	out := reflect.New(v.Type()).Elem()
	switch v.Kind() {
	case reflect.Struct:
		for i := range v.NumField() {
			out.Field(i).Set(roomy(v.Field(i)))
		}
	case reflect.Slice:
		out.Set(reflect.MakeSlice(v.Type(), v.Len()+2, v.Len()+2))
		for i := range v.Len() {
			out.Index(i).Set(roomy(v.Index(i)))
		}
		out.Set(out.Slice(0, v.Len()))
	case reflect.String:
		out.SetString(strings.Clone(v.String()))
	default:
		out.Set(v)
	}
	return out
}

// region is some bytes of memory.
type region struct{ from, to uintptr }

func (r region) meets(o region) bool {
	return r.from < o.to && o.from < r.to
}

// memory is the regions of the lists and of the texts that a thing consists of, spare room included.
func memory(v reflect.Value) (lists, texts []region) {
	parts := 0
	part := v.Field
	switch v.Kind() {
	case reflect.String:
		from := uintptr(unsafe.Pointer(unsafe.StringData(v.String())))
		return nil, []region{{from, from + uintptr(v.Len())}}
	case reflect.Struct:
		parts = v.NumField()
	case reflect.Slice:
		lists = append(lists, region{v.Pointer(), v.Pointer() + uintptr(v.Cap())*v.Type().Elem().Size()})
		v = v.Slice(0, v.Cap())
		parts, part = v.Len(), v.Index
	}
	for i := range parts {
		l, s := memory(part(i))
		lists, texts = append(lists, l...), append(texts, s...)
	}
	return lists, texts
}

// everything is a thing and the spare room of its lists, to be compared.
func everything(v reflect.Value) []any {
	var list []any
	switch v.Kind() {
	case reflect.Struct:
		for i := range v.NumField() {
			list = append(list, everything(v.Field(i))...)
		}
	case reflect.Slice:
		list = append(list, v.Len(), v.Cap())
		v = v.Slice(0, v.Cap())
		for i := range v.Len() {
			list = append(list, everything(v.Index(i))...)
		}
	default:
		list = append(list, v.Interface())
	}
	return list
}

// fresh tells of results that share memory with an argument, or of two lists of them that share some.
func fresh(t *testing.T, argument any, results ...any) {
	t.Helper()
	lists, texts := memory(reflect.ValueOf(argument))
	for _, x := range results {
		newLists, newTexts := memory(reflect.ValueOf(x))
		for _, r := range newLists {
			if slices.ContainsFunc(lists, r.meets) {
				t.Errorf("%s: a list shares memory", brief(x))
			}
			lists = append(lists, r)
		}
		for _, r := range newTexts {
			if slices.ContainsFunc(texts, r.meets) {
				t.Errorf("%s: a text shares memory", brief(x))
			}
		}
	}
}

// P24.5: arguments stay as they are, their spare room included, and results are new memory.
func TestMemory(t *testing.T) {
	s := &source{state: 245}
	for range 200 {
		m := roomy(reflect.ValueOf(s.model())).Interface().(api.Model)
		before := everything(reflect.ValueOf(m))
		axes, matches, e := Matches(m, "t")
		r, f := Analyze(m, "t")
		if e != f || e != api.OK && e != api.ErrLong {
			t.Error(brief(m), e, f)
		}
		cell := make([]int, len(axes), len(axes)+2)
		values, g := Tuple(m, "t", cell)
		if g != e && !slices.Contains(axes, 0) {
			t.Error(brief(m), g)
		}
		fresh(t, struct {
			Model api.Model
			Cell  []int
		}{m, cell}, axes, matches, r, values)
		if !reflect.DeepEqual(everything(reflect.ValueOf(m)), before) || slices.ContainsFunc(cell[:cap(cell)], func(n int) bool { return n != 0 }) {
			t.Error(brief(m), cell)
		}
	}
}

// P24.5: the same for Cover; so a result may be changed.
func TestCoverMemory(t *testing.T) {
	s := &source{state: 246}
	for range 200 {
		axes := roomy(reflect.ValueOf([]int{1 + s.below(4), 1 + s.below(4), 1 + s.below(4)})).Interface().([]int)
		cells := tuples(make([]int, 3), axes)
		mix(s, cells)
		cells = roomy(reflect.ValueOf(cells[:s.below(len(cells)+1)])).Interface().([][]int)
		argument := struct {
			Axes  []int
			Cells [][]int
		}{axes, cells}
		before := everything(reflect.ValueOf(argument))
		boxes, e := Cover(axes, cells)
		fresh(t, argument, boxes)
		if e != api.OK || !reflect.DeepEqual(everything(reflect.ValueOf(argument)), before) {
			t.Error(axes, cells, e)
		}
		for _, box := range boxes {
			for i := range box[:cap(box)] {
				box[:cap(box)][i] = 77
			}
		}
		hold(t, axes, cells)
	}
}
