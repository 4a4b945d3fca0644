package outline

import (
	"math"
	"slices"
	"testing"

	"tariff/api"
	"tariff/plane"
)

// P25.1, P25.2: the chapter's examples.
func TestExamples(t *testing.T) {
	for _, c := range []struct {
		wide, high int
		cells      []complex128
		want       [][]complex128
	}{
		{2, 2, []complex128{0}, [][]complex128{{0, 1, 1 + 1i, 1i}}},
		{2, 1, []complex128{0, 1}, [][]complex128{{0, 2, 2 + 1i, 1i}}},
		{2, 2, []complex128{0, 1 + 1i}, [][]complex128{{0, 1, 1 + 1i, 1i}, {1 + 1i, 2 + 1i, 2 + 2i, 1 + 2i}}},
		{2, 2, []complex128{1, 1i}, [][]complex128{{1i, 1 + 1i, 1 + 2i, 2i}, {1, 2, 2 + 1i, 1 + 1i}}},
		{3, 3, []complex128{0, 1i, 2i, 1, 1 + 2i, 2, 2 + 1i, 2 + 2i}, [][]complex128{{0, 3, 3 + 3i, 3i}, {1 + 1i, 1 + 2i, 2 + 2i, 2 + 1i}}},
		{2, 2, nil, nil}, {0, 0, nil, nil}, {0, 9, nil, nil}, {9, 0, nil, nil},
	} {
		got, e := Trace(c.wide, c.high, c.cells)
		if !same(got, c.want) || e != api.OK {
			t.Error(c.wide, c.high, c.cells, got, e)
		}
		cells, e := Fill(c.wide, c.high, got)
		slices.SortFunc(c.cells, func(a, b complex128) int { return int(10000*(real(a)-real(b)) + imag(a) - imag(b)) })
		if !slices.Equal(cells, c.cells) || e != api.OK {
			t.Error(c.wide, c.high, c.cells, cells, e)
		}
	}
	if cells, e := Fill(2, 2, [][]complex128{{0, 1 + 1i}}); len(cells) != 0 || e != api.ErrForm {
		t.Error(cells, e)
	}
	if cells, e := Fill(2, 2, [][]complex128{{}, nil}); len(cells) != 0 || e != api.OK {
		t.Error(cells, e)
	}
	if cells, e := Fill(2, 2, [][]complex128{nil, {1, 1 + 1i, 1i, 0}, {}}); !slices.Equal(cells, []complex128{0}) || e != api.OK {
		t.Error(cells, e)
	}
}

// P25.1, P25.2, P25.4: every set of the cells of each plane of at most 12 cells.
func TestTraceSmall(t *testing.T) {
	s := &source{state: 251}
	for wide := 1; wide <= 12; wide++ {
		for high := 1; wide*high <= 12; high++ {
			for bits := range 1 << (wide * high) {
				set := map[[2]int]bool{}
				for n := range wide * high {
					if bits>>n&1 == 1 {
						set[[2]int{n % wide, n / wide}] = true
					}
				}
				hold(t, s, wide, high, set)
			}
		}
	}
}

// P25.1, P25.2, P25.4: random sets, of few cells to nearly all, of planes up to the greatest.
func TestTraceRandom(t *testing.T) {
	s := &source{state: 252}
	crossed := 0
	for i := range 1500 {
		wide, high := 1+s.below(7), 1+s.below(7)
		if i%50 == 0 {
			wide = pick(s, 1, 2, 3, 50, 63, 1333, 2000, 4000)
			high = 4000 / wide
		}
		parts := pick(s, 1, 2, 5, 10, 30)
		full := s.below(2) == 0
		set := map[[2]int]bool{}
		for x := range wide {
			for y := range high {
				if s.below(parts+1) == 0 != full {
					set[[2]int{x, y}] = true
				}
			}
		}
		for _, line := range hold(t, s, wide, high, set) {
			seen := map[complex128]bool{}
			for _, p := range line {
				if seen[p] {
					crossed++
				}
				seen[p] = true
			}
		}
	}
	if crossed < 100 {
		t.Error("too few lines come to one point twice:", crossed)
	}
}

// comb is columns with a tooth at each row, to the right and to the left in turns, on a row that joins them.
func comb(wide, high int) map[[2]int]bool {
	set := map[[2]int]bool{}
	for x := range wide {
		for y := range high {
			if y == 0 || x%3 == 1 || x%3 == 0 && y%2 == 0 || x%3 == 2 && y%2 == 1 {
				set[[2]int{x, y}] = true
			}
		}
	}
	return set
}

// P25.1, P25.2, P25.4: a line of more points than Fill and plane.Area take, and many lines that have more than Fill takes.
func TestTraceLong(t *testing.T) {
	s := &source{state: 253}
	lines := hold(t, s, 63, 63, comb(63, 63))
	if len(lines) != 1 || len(lines[0]) <= 4000 {
		t.Fatal(len(lines))
	}
	if n, e := plane.Area(lines[0]); n != 0 || e != api.ErrLong {
		t.Error(n, e)
	}
	board := map[[2]int]bool{}
	for n := range 4000 {
		if x, y := n%50, n/50; (x+y)%2 == 1 {
			board[[2]int{x, y}] = true
		}
	}
	if lines := hold(t, s, 50, 80, board); len(lines) != 2000 {
		t.Error(len(lines))
	}
	for wide := 1; wide <= 40; wide++ {
		hold(t, s, wide, 40, comb(wide, 40))
	}
}

// P25.1: a snail, whose one line goes all the way in and out again; and rings within rings.
func TestTraceSnail(t *testing.T) {
	s := &source{state: 254}
	for n := 1; n <= 40; n++ {
		snail, rings := map[[2]int]bool{}, map[[2]int]bool{}
		for x := range n {
			for y := range n {
				ring := min(x, y, n-1-x, n-1-y)
				if ring%2 == 0 {
					rings[[2]int{x, y}] = true
				}
				// The ring is opened above its lower left corner, and joined to the next one there.
				if open := x == ring && y == ring+1; ring%2 == 0 != open {
					snail[[2]int{x, y}] = true
				}
			}
		}
		if lines := hold(t, s, n, n, snail); len(lines) != 1 {
			t.Error(n, len(lines))
		}
		if lines := hold(t, s, n, n, rings); len(lines) != (n+1)/2 {
			t.Error(n, len(lines))
		}
	}
}

// P25.1, P1: the errors in their order, and the planes at the limits.
func TestTraceErrors(t *testing.T) {
	full := make([]complex128, 4000)
	nan := complex(math.NaN(), 0)
	for _, c := range []struct {
		wide, high int
		cells      []complex128
		want       api.Errno
	}{
		{-1, 2, nil, api.ErrArg}, {2, -1, nil, api.ErrArg}, {-1, -1, nil, api.ErrArg}, {math.MinInt, math.MaxInt, nil, api.ErrArg}, {math.MaxInt, math.MinInt, nil, api.ErrArg}, {-1, 5000, []complex128{nan}, api.ErrArg}, {5000, -1, make([]complex128, 4001), api.ErrArg}, {-4001, -1, nil, api.ErrArg},
		{0, 0, nil, api.OK}, {0, math.MaxInt, nil, api.OK}, {math.MaxInt, 0, nil, api.OK}, {0, 1 << 40, nil, api.OK}, {1 << 40, 0, nil, api.OK}, {1, 4000, full, api.OK}, {4000, 1, full, api.OK}, {63, 63, full, api.OK}, {62, 64, full, api.OK},
		{1, 4001, nil, api.ErrLong}, {4001, 1, nil, api.ErrLong}, {63, 64, nil, api.ErrLong}, {2, 2001, nil, api.ErrLong}, {math.MaxInt, math.MaxInt, nil, api.ErrLong}, {math.MaxInt, 2, nil, api.ErrLong}, {2, math.MaxInt, nil, api.ErrLong}, {1 << 32, 1 << 32, nil, api.ErrLong}, {1 << 62, 4, []complex128{nan}, api.ErrLong},
		{1, 1, append(slices.Clone(full), 0), api.ErrLong}, {1, 1, append(slices.Clone(full), nan), api.ErrLong}, {0, 0, make([]complex128, 4001), api.ErrLong}, {1, 1, append(slices.Clone(full[1:]), nan), api.ErrForm},
		{0, 0, []complex128{0}, api.ErrForm}, {0, 9, []complex128{0}, api.ErrForm}, {9, 0, []complex128{0}, api.ErrForm}, {0, math.MaxInt, []complex128{0}, api.ErrForm}, {math.MaxInt, 0, []complex128{1}, api.ErrForm}, {1, 4000, []complex128{3999i}, api.OK}, {1, 4000, []complex128{4000i}, api.ErrForm}, {1, 4000, []complex128{3999}, api.ErrForm}, {4000, 1, []complex128{3999}, api.OK}, {4000, 1, []complex128{4000}, api.ErrForm},
	} {
		got, e := Trace(c.wide, c.high, c.cells)
		if e != c.want || e != api.OK && len(got) != 0 || len(got) != min(1, len(c.cells)) && e == api.OK {
			t.Errorf("Trace(%d, %d, %s): %s %v, want %v", c.wide, c.high, brief(c.cells), brief(got), e, c.want)
		}
	}
}

// P25.1: an element that is no cell, at any place; the sign of a part that is 0 counts for nothing.
func TestTraceForm(t *testing.T) {
	parts := append(odd(), 0, 1, 2, 3, 4, 5, 6)
	for _, re := range parts {
		for _, im := range parts {
			p := complex(re, im)
			want := wantCheck(3, 5, 0)
			if !isWhole(re, 2) || !isWhole(im, 4) {
				want = api.ErrForm
			}
			for _, cells := range [][]complex128{{p}, {p, 0}, {2 + 4i, p}, {0, p, 1}} {
				got, e := Trace(3, 5, cells)
				if e != want || e != api.OK && len(got) != 0 {
					t.Error(cells, got, e)
				}
				set := map[[2]int]bool{}
				for _, p := range cells {
					set[[2]int{int(real(p)), int(imag(p))}] = true
				}
				if e == api.OK && !same(got, wantLines(set)) {
					t.Error(cells, got, wantLines(set))
				}
			}
		}
	}
}
