package census

import (
	"fmt"
	"reflect"
	"slices"
	"strings"
	"testing"

	"tariff/api"
	"tariff/axis"
	"tariff/run"
	"tariff/sweep"
)

// wantCount is how many of all choices of segments so many rules match, by their values.
func wantCount(t *testing.T, m api.Model) []int {
	t.Helper()
	choices := [][]api.Value{nil}
	names := api.Value{Kind: api.Ctx}
	for col, c := range m.Decisions[1].Table.Ins {
		names.Names = append(names.Names, c.Text)
		segs, _, e := axis.Column(m, "t", col)
		if e != api.OK {
			t.Fatal(brief(m), e)
		}
		var more [][]api.Value
		for _, choice := range choices {
			for _, s := range segs {
				more = append(more, append(slices.Clone(choice), s.Value))
			}
		}
		choices = more
	}
	cells := map[int]int{}
	most := -1
	for _, choice := range choices {
		names.List = choice
		rules, e := run.Matches(m, "t", names)
		if e != api.OK {
			t.Error(brief(m), choice, e)
		}
		cells[len(rules)]++
		most = max(most, len(rules))
	}
	var counts []int
	for k := range most + 1 {
		counts = append(counts, cells[k])
	}
	return counts
}

// P26.1, P26.2: random tables of up to four columns.
func TestCountRandom(t *testing.T) {
	s := &source{state: 265}
	longest, empty := 0, 0
	for range 500 {
		m := s.model(s.below(5))
		axes, _, e := sweep.Matches(m, "t")
		cells := 1
		for _, n := range axes {
			cells *= n
		}
		if e != api.OK || cells > 300 {
			continue // the oracle takes its time
		}
		want := wantCount(t, m)
		got, e := Count(m, "t")
		if !slices.Equal(got, want) || e != api.OK {
			t.Errorf("%s: %v %v, want %v", brief(m), got, e, want)
		}
		report, _ := sweep.Analyze(m, "t")
		if cells > 0 && (got[0] != report.Missing || report.Apart == (len(got) > 2)) {
			t.Errorf("%s: %v beside %v", brief(m), got, brief(report))
		}
		holdWave(t, got)
		longest = max(longest, len(want))
		if len(want) == 0 {
			empty++
		}
	}
	if longest < 5 || empty < 5 {
		t.Error(longest, empty)
	}
}

// P26.1: tables by hand: the chapter's, one without columns, without rules, without cells, with the most rules and the most cells.
func TestCount(t *testing.T) {
	all := slices.Repeat([]string{"-"}, 60)
	wide := numbers(31)
	for i, c := range []struct {
		m    api.Model
		want []int
	}{
		{withTable(2, column{"number", []string{"< 5", "> 5"}}), []int{1, 2}},
		{withTable(2, column{"number", []string{"< 5", "-"}}, column{"number", []string{"-", "< 7"}}), []int{4, 4, 1}},
		{withTable(0), []int{1}}, {withTable(1), []int{0, 1}}, {withTable(60), append(make([]int, 60), 1)},
		{withTable(0, column{"number", nil}), []int{1}}, {withTable(60, column{"boolean", all}), append(make([]int, 60), 2)},
		{withTable(0, column{"none", nil}), nil}, {withTable(1, column{"number", []string{"1"}}, column{"none", []string{"-"}}), nil},
		{withTable(2, column{"tier", []string{`"a"`, `"a"`}}), []int{1, 0, 1}},
		{withTable(31, column{"number", wide}, column{"number", wide}), []int{3938, 31}},
	} {
		if got, e := Count(c.m, "t"); !slices.Equal(got, c.want) || e != api.OK {
			t.Error(i, got, e, c.want)
		}
	}
}

// P26.1, P1: the errors are those of sweep.Matches.
func TestCountErrors(t *testing.T) {
	wrong := withTable(0, column{"number", nil})
	wrong.Id = ""
	wide := numbers(40)
	for i, c := range []struct {
		m    api.Model
		id   string
		want api.Errno
	}{
		{wrong, "t", api.ErrForm}, {wrong, "z", api.ErrForm}, {withTable(0), "z", api.ErrName}, {withTable(0), "", api.ErrName}, {withTable(0), "e", api.ErrType}, {withTable(1, column{"order", []string{"-"}}), "t", api.ErrCannot}, {withTable(1, column{"number", []string{"1"}}, column{"any", []string{"-"}}), "t", api.ErrCannot}, {withTable(40, column{"number", wide}, column{"number", wide}), "t", api.ErrLong},
	} {
		_, _, known := sweep.Matches(c.m, c.id)
		if got, e := Count(c.m, c.id); e != c.want || e != known || len(got) != 0 {
			t.Error(i, got, fmt.Sprint(e), c.want)
		}
	}
}

// roomy is a copy of a thing with memory of its own, and with something in the spare room of each list.
func roomy(v reflect.Value) reflect.Value {
	out := reflect.New(v.Type()).Elem()
	switch v.Kind() {
	case reflect.Struct:
		for i := range v.NumField() {
			out.Field(i).Set(roomy(v.Field(i)))
		}
	case reflect.Slice:
		out.Set(reflect.MakeSlice(v.Type(), v.Len()+2, v.Len()+2))
		for i := range v.Len() {
			out.Index(i).Set(roomy(v.Index(i)))
		}
		out.Set(out.Slice(0, v.Len()))
	case reflect.String:
		out.SetString(strings.Clone(v.String()))
	default:
		out.Set(v)
	}
	return out
}

// everything is a thing and the spare room of its lists, to be compared.
func everything(v reflect.Value) []any {
	var list []any
	switch v.Kind() {
	case reflect.Struct:
		for i := range v.NumField() {
			list = append(list, everything(v.Field(i))...)
		}
	case reflect.Slice:
		list = append(list, v.Len(), v.Cap())
		v = v.Slice(0, v.Cap())
		for i := range v.Len() {
			list = append(list, everything(v.Index(i))...)
		}
	default:
		list = append(list, v.Interface())
	}
	return list
}

// P26.4: arguments stay as they are, their spare room included, and a result may be changed.
func TestMemory(t *testing.T) {
	s := &source{state: 266}
	for range 100 {
		m := roomy(reflect.ValueOf(s.model(2))).Interface().(api.Model)
		before := everything(reflect.ValueOf(m))
		counts, e := Count(m, "t")
		kept := slices.Clone(counts)
		clear(counts[:cap(counts)])
		again, f := Count(m, "t")
		if e != api.OK || f != api.OK || !slices.Equal(again, kept) || !reflect.DeepEqual(everything(reflect.ValueOf(m)), before) {
			t.Error(brief(m), kept, again, e, f)
		}
		list := append(slices.Clone(kept), 99, 99)
		w, e := Wave(list[:len(kept)])
		if w != wantWave(kept) || e != api.OK || !slices.Equal(list, append(kept, 99, 99)) {
			t.Error(list, w, e)
		}
	}
	a, b := wantWave([]int{1, 2}), wantWave([]int{1, 1})
	Back(a)
	Shift(a, 1)
	Both(a, b)
	if a != wantWave([]int{1, 2}) || b != wantWave([]int{1, 1}) {
		t.Error(a, b)
	}
}
