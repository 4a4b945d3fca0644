package outline

import (
	"fmt"
	"testing"

	"tariff/api"
	"tariff/axis"
	"tariff/run"
)

// segments is how many segments each column has, and the first value of each of them.
func segments(t *testing.T, m api.Model) (axes []int, values [][]api.Value) {
	t.Helper()
	for col := range m.Decisions[1].Table.Ins {
		segs, _, e := axis.Column(m, "t", col)
		if e != api.OK {
			t.Fatal(brief(m), e)
		}
		var list []api.Value
		for _, s := range segs {
			list = append(list, s.Value)
		}
		axes, values = append(axes, len(segs)), append(values, list)
	}
	return axes, values
}

// missed is the cells of a table of two columns for whose values no rule matches.
func missed(t *testing.T, m api.Model, values [][]api.Value) map[[2]int]bool {
	t.Helper()
	set := map[[2]int]bool{}
	for x, v := range values[0] {
		for y, w := range values[1] {
			rules, e := run.Matches(m, "t", api.Value{Kind: api.Ctx, Names: []string{"x0", "x1"}, List: []api.Value{v, w}})
			if e != api.OK {
				t.Error(brief(m), v, w, e)
			}
			if len(rules) == 0 {
				set[[2]int{x, y}] = true
			}
		}
	}
	return set
}

// P25.3, P25.4: random tables with two columns, by the rules that match the values of each cell.
func TestGapsRandom(t *testing.T) {
	s := &source{state: 256}
	most, high, wide := 0, 0, 0
	for range 500 {
		m := s.model(2)
		axes, values := segments(t, m)
		set := missed(t, m, values)
		want := hold(t, s, axes[0], axes[1], set)
		if got, e := Gaps(m, "t"); !same(got, want) || e != api.OK {
			t.Errorf("%s: %v %v, want %v", brief(m), got, e, want)
		}
		most = max(most, len(want))
		if axes[0] < axes[1] && len(set) > 0 {
			high++
		}
		if axes[0] > axes[1] && len(set) > 0 {
			wide++
		}
	}
	if most < 4 || high < 50 || wide < 50 {
		t.Error(most, high, wide)
	}
}

// P25.3: tables by hand: one gap in the middle of another, none, no rules, no cells, and the most cells.
func TestGaps(t *testing.T) {
	for i, c := range []struct {
		m    api.Model
		want [][]complex128
	}{
		{withTable(2, column{"number", []string{"< 5", "-"}}, column{"number", []string{"-", "< 7"}}), [][]complex128{{1 + 1i, 3 + 1i, 3 + 3i, 1 + 3i}}},
		{withTable(3, column{"number", []string{"[1..3]", "< 1", "5"}}, column{"number", []string{"[1..3]", "1", "-"}}), [][]complex128{{0, 5, 5 + 5i, 5i, 2i, 1 + 2i, 1 + 4i, 4 + 4i, 4 + 1i, 1i}, {6, 7, 7 + 5i, 6 + 5i}}},
		{withTable(1, column{"boolean", []string{"-"}}, column{"number", []string{"-"}}), nil},
		{withTable(0, column{"boolean", nil}, column{"tier", nil}), [][]complex128{{0, 2, 2 + 2i, 2i}}},
		{withTable(1, column{"boolean", []string{"true"}}, column{"tier", []string{`"a"`}}), [][]complex128{{0, 1, 1 + 1i, 2 + 1i, 2 + 2i, 2i}}},
		{withTable(1, column{"none", []string{"-"}}, column{"number", []string{"1"}}), nil},
		{withTable(1, column{"number", []string{"1"}}, column{"none", []string{"-"}}), nil},
		{withTable(2, column{"none", []string{"-", "true"}}, column{"none", []string{"-", "-"}}), nil},
	} {
		if got, e := Gaps(c.m, "t"); !same(got, c.want) || e != api.OK {
			t.Error(i, got, e)
		}
	}
}

// P25.3, P1: the errors in their order: those of sweep.Matches, then that of the number of columns.
func TestGapsErrors(t *testing.T) {
	wrong := withTable(0, column{"number", nil})
	wrong.Id = ""
	wide := numbers(40)
	for i, c := range []struct {
		m    api.Model
		id   string
		want api.Errno
	}{
		{wrong, "t", api.ErrForm}, {wrong, "z", api.ErrForm},
		{withTable(0, column{"number", nil}), "z", api.ErrName}, {withTable(0), "", api.ErrName}, {withTable(0), "e", api.ErrType}, {withTable(0, column{"number", nil}, column{"number", nil}), "e", api.ErrType},
		{withTable(1, column{"order", []string{"-"}}), "t", api.ErrCannot}, {withTable(1, column{"number", []string{"1"}}, column{"order", []string{"-"}}), "t", api.ErrCannot}, {withTable(1, column{"any", []string{"-"}}, column{"number", []string{"1"}}, column{"number", []string{"1"}}), "t", api.ErrCannot},
		{withTable(40, column{"number", wide}, column{"number", wide}), "t", api.ErrLong}, {withTable(40, column{"number", wide}, column{"number", wide}, column{"number", wide}), "t", api.ErrLong},
		{withTable(0), "t", api.ErrArg}, {withTable(1, column{"number", []string{"1"}}), "t", api.ErrArg}, {withTable(0, column{"number", nil}, column{"number", nil}, column{"number", nil}), "t", api.ErrArg}, {withTable(0, column{"none", nil}), "t", api.ErrArg}, {withTable(0, column{"none", nil}, column{"none", nil}, column{"none", nil}), "t", api.ErrArg},
		{withTable(0, column{"number", nil}, column{"none", nil}), "t", api.OK}, {withTable(31, column{"number", wide[:31]}, column{"number", wide[9:40]}), "t", api.OK},
	} {
		if got, e := Gaps(c.m, c.id); e != c.want || e != api.OK && len(got) != 0 {
			t.Error(i, got, fmt.Sprint(e), c.want)
		}
	}
}
