package outline

import (
	"reflect"
	"slices"
	"strings"
	"testing"

	"tariff/api"
)

// roomy is a copy of a thing with memory of its own, and with something in the spare room of each list.
func roomy(v reflect.Value) reflect.Value {
	out := reflect.New(v.Type()).Elem()
	switch v.Kind() {
	case reflect.Struct:
		for i := range v.NumField() {
			out.Field(i).Set(roomy(v.Field(i)))
		}
	case reflect.Slice:
		out.Set(reflect.MakeSlice(v.Type(), v.Len()+2, v.Len()+2))
		for i := range v.Len() {
			out.Index(i).Set(roomy(v.Index(i)))
		}
		out.Set(out.Slice(0, v.Len()))
	case reflect.String:
		out.SetString(strings.Clone(v.String()))
	default:
		out.Set(v)
	}
	return out
}

// everything is a thing and the spare room of its lists, to be compared.
func everything(v reflect.Value) []any {
	var list []any
	switch v.Kind() {
	case reflect.Struct:
		for i := range v.NumField() {
			list = append(list, everything(v.Field(i))...)
		}
	case reflect.Slice:
		list = append(list, v.Len(), v.Cap())
		v = v.Slice(0, v.Cap())
		for i := range v.Len() {
			list = append(list, everything(v.Index(i))...)
		}
	default:
		list = append(list, v.Interface())
	}
	return list
}

// region is some bytes of memory.
type region struct{ from, to uintptr }

func (r region) meets(o region) bool {
	return r.from < o.to && o.from < r.to
}

// memory is the regions of some lists, spare room included.
func memory[T any](lists ...[]T) []region {
	var out []region
	for _, l := range lists {
		v := reflect.ValueOf(l)
		out = append(out, region{v.Pointer(), v.Pointer() + uintptr(v.Cap())*v.Type().Elem().Size()})
	}
	return out
}

// apart tells of two lists that share memory.
func apart(t *testing.T, lists []region) {
	t.Helper()
	for i, r := range lists {
		if slices.ContainsFunc(lists[:i], r.meets) {
			t.Error("two lists share memory")
		}
	}
}

// P25.5: arguments stay as they are, their spare room included, and results are new memory, each line by itself.
func TestMemory(t *testing.T) {
	s := &source{state: 257}
	for range 300 {
		var cells []complex128
		for range 1 + s.below(20) {
			cells = append(cells, complex(float64(s.below(5)), float64(s.below(5))))
		}
		cells = roomy(reflect.ValueOf(cells)).Interface().([]complex128)
		before := everything(reflect.ValueOf(cells))
		lines, e := Trace(5, 5, cells)
		if e != api.OK || !reflect.DeepEqual(everything(reflect.ValueOf(cells)), before) {
			t.Error(cells, e)
		}
		apart(t, slices.Concat(memory(cells), memory(lines), memory(lines...)))
		given := roomy(reflect.ValueOf(lines)).Interface().([][]complex128)
		before = everything(reflect.ValueOf(given))
		back, e := Fill(5, 5, given)
		if e != api.OK || !reflect.DeepEqual(everything(reflect.ValueOf(given)), before) {
			t.Error(given, e)
		}
		apart(t, slices.Concat(memory(back), memory(given), memory(given...)))
		for _, line := range lines {
			for i := range line[:cap(line)] {
				line[:cap(line)][i] = 77
			}
		}
		if again, e := Trace(5, 5, back); !same(again, given) || e != api.OK {
			t.Error(cells, again, e)
		}
	}
}

// P25.5: the same for Gaps.
func TestGapsMemory(t *testing.T) {
	s := &source{state: 258}
	for range 100 {
		m := roomy(reflect.ValueOf(s.model(2))).Interface().(api.Model)
		before := everything(reflect.ValueOf(m))
		lines, e := Gaps(m, "t")
		apart(t, slices.Concat(memory(lines), memory(lines...)))
		kept := roomy(reflect.ValueOf(lines)).Interface().([][]complex128)
		for _, line := range lines {
			clear(line[:cap(line)])
		}
		again, f := Gaps(m, "t")
		if e != api.OK || f != api.OK || !same(again, kept) || !reflect.DeepEqual(everything(reflect.ValueOf(m)), before) {
			t.Error(brief(m), again, e, f)
		}
	}
}
