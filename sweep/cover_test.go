package sweep

import (
	"math"
	"slices"
	"testing"

	"tariff/api"
	"tariff/plane"
)

// P24.1: the chapter's examples, and some more.
func TestCoverExamples(t *testing.T) {
	for _, c := range []struct {
		axes  []int
		cells [][]int
		want  [][]complex128
	}{
		{[]int{3, 3}, [][]int{{0, 0}, {0, 1}, {1, 0}, {1, 1}, {2, 2}}, [][]complex128{{2i, 2i}, {2 + 3i, 2 + 3i}}},
		{[]int{2}, nil, nil}, {nil, [][]int{{}}, [][]complex128{{}}}, {nil, [][]int{nil, {}, nil}, [][]complex128{{}}}, {nil, nil, nil}, {[]int{0}, nil, nil}, {[]int{4000}, [][]int{{3999}}, [][]complex128{{3999 + 4000i}}},
		// The last column is extended ahead of the others.
		{[]int{2, 2}, [][]int{{0, 0}, {0, 1}, {1, 0}}, [][]complex128{{1i, 2i}, {1 + 2i, 1i}}}, {[]int{2, 2}, [][]int{{1, 1}, {0, 1}, {1, 0}}, [][]complex128{{2i, 1 + 2i}, {1 + 2i, 1i}}},
		// A box doesn't go into an earlier one, nor back below its first cell.
		{[]int{3, 3}, [][]int{{0, 1}, {0, 2}, {1, 0}, {1, 1}, {1, 2}, {2, 0}, {2, 1}}, [][]complex128{{2i, 1 + 3i}, {1 + 3i, 1i}, {2 + 3i, 1 + 2i}}},
		{[]int{5}, [][]int{{4}, {0}, {3}, {1}, {3}, {1}}, [][]complex128{{2i}, {3 + 5i}}},
		{[]int{2, 1, 2}, [][]int{{0, 0, 0}, {0, 0, 1}, {1, 0, 0}, {1, 0, 1}}, [][]complex128{{2i, 1i, 2i}}},
	} {
		if got, e := Cover(c.axes, c.cells); !same(got, c.want) || e != api.OK {
			t.Error(c.axes, c.cells, got, e)
		}
		hold(t, c.axes, c.cells)
	}
}

// P24.1: every set of cells of small axes.
func TestCoverAllSmall(t *testing.T) {
	for _, axes := range [][]int{nil, {1}, {8}, {1, 1}, {3, 3}, {2, 5}, {5, 2}, {2, 2, 2}, {2, 2, 3}, {3, 2, 2}, {1, 4, 2}, {4, 1, 2}, {2, 1, 4}, {2, 1, 2, 2}, {1, 1, 1, 1, 1, 2, 1, 2}, {0}, {0, 3}, {3, 0}, {2, 0, 2}} {
		all := tuples(make([]int, len(axes)), axes)
		for set := range 1 << len(all) {
			var cells [][]int
			for i, cell := range all {
				if set>>i&1 == 1 {
					cells = append(cells, cell)
				}
			}
			if e := hold(t, axes, cells); e != api.OK {
				t.Fatal(axes, e)
			}
		}
	}
}

// P24.1: random sets of cells of any axes, in any order and some of them twice; each cell is in one box alone.
func TestCoverRandom(t *testing.T) {
	s := &source{state: 241}
	for i := range 300 {
		axes := make([]int, s.below(9))
		for col := range axes {
			axes[col] = 1 + s.below(pick(s, 2, 4, 9))
		}
		if i%30 == 0 {
			axes = pick(s, []int{4000}, []int{50, 80}, []int{2, 2000}, []int{2000, 2}, []int{4, 4, 10, 25}, []int{2, 2, 2, 5, 2, 2, 5, 5})
		}
		if wantCheck(axes, nil) != api.OK {
			continue
		}
		all := tuples(make([]int, len(axes)), axes)
		var cells [][]int
		part := 1 + s.below(10) // so many of ten cells are in the set
		for _, cell := range all {
			if s.below(10) < part {
				cells = append(cells, cell)
			}
		}
		mix(s, cells)
		if len(cells) < 2000 {
			cells = append(cells, cells[:len(cells)/2]...)
		}
		if len(all) > 500 && i%30 > 0 {
			continue // the oracle takes its time
		}
		hold(t, axes, cells)
		holdCells(t, axes, all, cells)
	}
}

// holdCells tells of cells that are not in one box alone, or of others that are in one.
func holdCells(t *testing.T, axes []int, all, cells [][]int) {
	t.Helper()
	boxes, _ := Cover(axes, cells)
	set := map[[8]int]bool{}
	for _, cell := range cells {
		set[key(cell)] = true
	}
	size := 0
	for _, box := range boxes {
		n, e := plane.Size(box)
		if e != api.OK {
			t.Error(axes, box, e)
		}
		size += n
	}
	if size != len(set) {
		t.Errorf("%v %s: the boxes have %d cells", axes, brief(cells), size)
	}
	for _, cell := range all {
		n := 0
		for _, box := range boxes {
			if ok, _ := plane.Holds(box, cell); ok {
				n++
			}
		}
		if n > 1 || (n == 1) != set[key(cell)] {
			t.Errorf("%v %s: %v is in %d boxes", axes, brief(cells), cell, n)
		}
	}
}

// P24.1, P1: the errors in their order, at the limits.
func TestCoverErrors(t *testing.T) {
	ones := func(n int) []int { return slices.Repeat([]int{1}, n) }
	zeros := func(n int) []int { return make([]int, n) }
	many := func(n int, cell ...int) [][]int { return slices.Repeat([][]int{cell}, n) }
	for i, c := range []struct {
		axes  []int
		cells [][]int
		want  api.Errno
	}{
		{[]int{-1}, nil, api.ErrArg}, {[]int{5000, -1}, nil, api.ErrArg}, {append(ones(100000), -1), many(4001), api.ErrArg}, {[]int{math.MinInt, 0}, many(1, 7), api.ErrArg}, {[]int{0, -1}, nil, api.ErrArg}, {[]int{math.MaxInt, 2, -1}, nil, api.ErrArg},
		{ones(8), many(4000, zeros(8)...), api.OK}, {ones(8), many(4001, zeros(8)...), api.ErrLong}, {ones(9), nil, api.ErrLong}, {ones(9), many(1, 5), api.ErrLong}, {zeros(9), nil, api.ErrLong}, {zeros(8), nil, api.OK}, {ones(100000), nil, api.ErrLong},
		{[]int{4000}, many(4000, 3999), api.OK}, {[]int{4001}, nil, api.ErrLong}, {[]int{2, 2000}, nil, api.OK}, {[]int{2, 2001}, nil, api.ErrLong}, {[]int{2001, 2}, nil, api.ErrLong}, {[]int{63, 63}, nil, api.OK}, {[]int{63, 64}, nil, api.ErrLong}, {[]int{4000, 1, 1}, nil, api.OK}, {[]int{1, 1, 4001}, nil, api.ErrLong}, {[]int{3, 1333}, nil, api.OK}, {[]int{3, 1334}, nil, api.ErrLong}, {[]int{math.MaxInt, math.MaxInt}, nil, api.ErrLong}, {[]int{1 << 32, 1 << 32}, nil, api.ErrLong}, {[]int{1 << 62, 4}, nil, api.ErrLong}, {[]int{2048, 1 << 20, 1 << 33}, nil, api.ErrLong}, {[]int{2048, 1 << 22, 1 << 31, 3}, many(1, 0, 0, 0, 0), api.ErrLong}, {[]int{1 << 32, 1 << 32, 1}, nil, api.ErrLong}, {[]int{math.MaxInt, 2}, many(1, -1), api.ErrLong}, {[]int{3, 3, 3, 3, 3, 3, 3, 2}, nil, api.ErrLong}, {[]int{3, 3, 3, 3, 3, 3, 3, 1}, nil, api.OK},
		// An axis without numbers leaves no cells at all, however long the others are.
		{[]int{0}, nil, api.OK}, {[]int{0}, many(1, 0), api.ErrForm}, {[]int{5000, 0}, nil, api.OK}, {[]int{math.MaxInt, math.MaxInt, 0}, nil, api.OK}, {[]int{math.MaxInt, 0, math.MaxInt}, many(1, 0, 0, 0), api.ErrForm}, {[]int{0, 3}, many(1, 0, 0), api.ErrForm}, {[]int{3, 0}, many(4001, 0, 0), api.ErrLong},
		{[]int{2}, many(1), api.ErrForm}, {[]int{2}, many(1, 0, 0), api.ErrForm}, {[]int{2}, many(1, 2), api.ErrForm}, {[]int{2}, many(1, -1), api.ErrForm}, {nil, many(1, 0), api.ErrForm}, {nil, many(4000), api.OK}, {nil, many(4001), api.ErrLong}, {[]int{2, 3}, many(1, 1, 2), api.OK}, {[]int{2, 3}, many(1, 2, 1), api.ErrForm}, {[]int{2, 3}, many(1, 1, 3), api.ErrForm}, {[]int{2, 3}, many(1, math.MinInt, 0), api.ErrForm}, {[]int{2, 3}, many(1, 0, math.MaxInt), api.ErrForm}, {[]int{2, 3}, append(many(3999, 1, 1), []int{1, 3}), api.ErrForm}, {[]int{2, 3}, append(many(4000, 1, 1), []int{1, 3}), api.ErrLong},
	} {
		if e := hold(t, c.axes, c.cells); e != c.want {
			t.Errorf("case %d: %v, want %v", i, e, c.want)
		}
	}
}
