package sweep

import (
	"fmt"
	"reflect"
	"slices"
	"testing"

	"tariff/api"
)

// What the chapter says, with cells made by calls within calls, and sets of cells as maps.

// tuples is the lists of numbers from the first up to the second one, column by column, in order.
func tuples(from, to []int) [][]int {
	if len(from) == 0 {
		return [][]int{nil}
	}
	var list [][]int
	rests := tuples(from[1:], to[1:])
	for n := from[0]; n < to[0] && len(rests) > 0; n++ {
		for _, rest := range rests {
			list = append(list, append([]int{n}, rest...))
		}
	}
	return list
}

// key is a cell as what can be looked up.
func key(cell []int) [8]int {
	var k [8]int
	copy(k[:], cell)
	return k
}

// allOf tells whether all cells of a box are in a set.
func allOf(set map[[8]int]bool, from, to []int) bool {
	return !slices.ContainsFunc(tuples(from, to), func(cell []int) bool { return !set[key(cell)] })
}

// wantCover is the cover of cells: each box is looked at as a whole each time it is extended.
func wantCover(axes []int, cells [][]int) [][]complex128 {
	set := map[[8]int]bool{}
	for _, cell := range cells {
		set[key(cell)] = true
	}
	var boxes [][]complex128
	for _, cell := range tuples(make([]int, len(axes)), axes) {
		if !set[key(cell)] {
			continue
		}
		to := make([]int, len(cell))
		for col, n := range cell {
			to[col] = n + 1
		}
		for col := len(cell) - 1; col >= 0; col-- {
			for {
				to[col]++
				if to[col] > axes[col] || !allOf(set, cell, to) {
					to[col]--
					break
				}
			}
		}
		for _, inner := range tuples(cell, to) {
			delete(set, key(inner))
		}
		box := make([]complex128, len(cell))
		for col := range box {
			box[col] = complex(float64(cell[col]), float64(to[col]))
		}
		boxes = append(boxes, box)
	}
	return boxes
}

// wantCheck is the error of Cover.
func wantCheck(axes []int, cells [][]int) api.Errno {
	product := 1.0
	for _, n := range axes {
		if n < 0 {
			return api.ErrArg
		}
		product *= float64(n) // far above the limit it need not be exact
	}
	if len(axes) > 8 || product > 4000 || len(cells) > 4000 {
		return api.ErrLong
	}
	for _, cell := range cells {
		if len(cell) != len(axes) {
			return api.ErrForm
		}
		for col, n := range cell {
			if n < 0 || n >= axes[col] {
				return api.ErrForm
			}
		}
	}
	return api.OK
}

// wantReport is the report on a table, from the rules that match each cell.
func wantReport(axes []int, matches [][]int) Report {
	all := tuples(make([]int, len(axes)), axes)
	r := Report{Axes: axes, Cells: len(all)}
	var missed [][]int
	pairs := map[[2]int][][]int{}
	most := -1
	for n, rules := range matches {
		if len(rules) == 0 {
			missed = append(missed, all[n])
		}
		for i, b := range rules {
			most = max(most, b)
			for _, a := range rules[:i] {
				pairs[[2]int{a, b}] = append(pairs[[2]int{a, b}], all[n])
			}
		}
	}
	r.Missing, r.Complete, r.Apart, r.Gaps = len(missed), len(missed) == 0, len(pairs) == 0, wantCover(axes, missed)
	for a := range most + 1 {
		for b := range most + 1 {
			if both := pairs[[2]int{a, b}]; len(both) > 0 {
				r.Overlaps = append(r.Overlaps, Overlap{A: a, B: b, Box: wantCover(axes, both)[0], Cells: len(both)})
			}
		}
	}
	return r
}

// same tells whether two things are equal, whether their lists are nil or empty.
func same(a, b any) bool {
	return fmt.Sprint(a) == fmt.Sprint(b) && reflect.TypeOf(a) == reflect.TypeOf(b)
}

// hold holds Cover against what is wanted, and tells the error that is wanted.
func hold(t *testing.T, axes []int, cells [][]int) api.Errno {
	t.Helper()
	var want [][]complex128
	e := wantCheck(axes, cells)
	if e == api.OK {
		want = wantCover(axes, cells)
	}
	if got, f := Cover(axes, cells); !same(got, want) || f != e {
		t.Errorf("Cover(%v, %s): %s %v, want %s %v", axes, brief(cells), brief(got), f, brief(want), e)
	}
	return e
}

// brief is the beginning of what something looks like.
func brief(x any) string {
	return fmt.Sprintf("%.300s", fmt.Sprint(x))
}

// source makes numbers, the same ones in every test run.
type source struct{ state uint64 }

func (s *source) below(n int) int {
	s.state = s.state*6364136223846793005 + 1442695040888963407
	x := s.state
	x ^= x >> 33
	x *= 0xff51afd7ed558ccd
	return int((x ^ x>>29) >> 1 % uint64(n))
}

// pick is one of some things.
func pick[T any](s *source, list ...T) T {
	return list[s.below(len(list))]
}

// mix puts a list in another order.
func mix[T any](s *source, list []T) {
	for i := range list {
		k := s.below(i + 1)
		list[i], list[k] = list[k], list[i]
	}
}
