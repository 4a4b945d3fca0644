package graph

import (
	"math"
	"slices"
	"testing"

	"tariff/api"
)

// P16.1, P16.2: the chapter's examples, and small graphs of each shape.
func TestExamples(t *testing.T) {
	for _, c := range []struct {
		needs         [][]int
		order, levels []int
	}{
		{[][]int{{1}, {}, {0}}, []int{1, 0, 2}, []int{1, 0, 2}},
		{nil, nil, nil}, {[][]int{}, nil, nil}, {[][]int{nil}, []int{0}, []int{0}}, {[][]int{{}, {}, {}}, []int{0, 1, 2}, []int{0, 0, 0}},
		{[][]int{{1}, {2}, {3}, {}}, []int{3, 2, 1, 0}, []int{3, 2, 1, 0}}, {[][]int{{}, {0}, {1}}, []int{0, 1, 2}, []int{0, 1, 2}},
		// What gets ready comes ahead of what is ready and greater.
		{[][]int{{1}, {}, {}}, []int{1, 0, 2}, []int{1, 0, 0}}, {[][]int{{2}, {}, {}, {1}}, []int{1, 2, 0, 3}, []int{1, 0, 0, 1}}, {[][]int{{4}, {3}, {}, {}, {}}, []int{2, 3, 1, 4, 0}, []int{1, 1, 0, 0, 0}},
		// Needs that occur more than once, and in any order.
		{[][]int{{1, 1, 1}, {}}, []int{1, 0}, []int{1, 0}}, {[][]int{{2, 1, 2}, {2, 2}, {}}, []int{2, 1, 0}, []int{2, 1, 0}}, {[][]int{{}, {0, 0}, {1, 0, 1, 0}}, []int{0, 1, 2}, []int{0, 1, 2}},
		// The level is that of the longest way.
		{[][]int{{}, {0}, {0, 1}, {0, 2, 1}}, []int{0, 1, 2, 3}, []int{0, 1, 2, 3}}, {[][]int{{3, 1}, {2}, {}, {}}, []int{2, 1, 3, 0}, []int{2, 1, 0, 0}}, {[][]int{{1, 3}, {2}, {}, {}}, []int{2, 1, 3, 0}, []int{2, 1, 0, 0}},
	} {
		if l, e := Order(c.needs); e != api.OK || !slices.Equal(l, c.order) {
			t.Errorf("Order(%v): %v %v, want %v", c.needs, l, e, c.order)
		}
		if l, e := Levels(c.needs); e != api.OK || !slices.Equal(l, c.levels) {
			t.Errorf("Levels(%v): %v %v, want %v", c.needs, l, e, c.levels)
		}
		hold(t, c.needs)
	}
	for _, c := range []struct {
		needs [][]int
		from  int
		want  []int
	}{
		{[][]int{{1}, {}, {0}}, 2, []int{0, 1, 2}}, {[][]int{{1}, {}, {0}}, 1, []int{1}}, {[][]int{{1}, {}, {0}}, 0, []int{0, 1}}, {[][]int{{1}, {0}}, 0, []int{0, 1}}, {[][]int{{1}, {0}}, 1, []int{0, 1}}, {[][]int{{0}}, 0, []int{0}}, {[][]int{nil}, 0, []int{0}}, {[][]int{{2, 2}, {1}, {0, 0}}, 0, []int{0, 2}}, {[][]int{{}, {3}, {}, {2}}, 1, []int{1, 2, 3}},
	} {
		if l, e := Reach(c.needs, c.from); e != api.OK || !slices.Equal(l, c.want) {
			t.Errorf("Reach(%v, %d): %v %v, want %v", c.needs, c.from, l, e, c.want)
		}
	}
	for _, needs := range [][][]int{{{0}}, {{1}, {0}}, {{}, {1}}, {{1}, {}, {2}}, {{}, {0, 2}, {3}, {1}}, {{1, 1}, {0, 0}}} {
		for _, call := range []func([][]int) ([]int, api.Errno){Order, Levels} {
			if l, e := call(needs); e != api.ErrCycle || len(l) != 0 {
				t.Error(needs, l, e)
			}
		}
		hold(t, needs)
	}
}

// ring is so many things, of which each needs the next one, and the last one what is given.
func ring(n int, last ...int) [][]int {
	var needs [][]int
	for i := range n - 1 {
		needs = append(needs, []int{i + 1})
	}
	return append(needs, last)
}

// P1, P16.1, P16.2: the errors, in their order, at the limits.
func TestErrors(t *testing.T) {
	many := func(n, need int) []int { return slices.Repeat([]int{need}, n) }
	for i, c := range []struct {
		needs       [][]int
		order, zero api.Errno // of Order and Levels; of Reach from 0
	}{
		{nil, api.OK, api.ErrArg}, {make([][]int, 100), api.OK, api.OK}, {make([][]int, 101), api.ErrLong, api.ErrLong}, {make([][]int, 1<<20), api.ErrLong, api.ErrLong}, {ring(100), api.OK, api.OK}, {ring(100, 0), api.ErrCycle, api.OK}, {ring(101), api.ErrLong, api.ErrLong}, {ring(101, 0), api.ErrLong, api.ErrLong},
		{[][]int{many(100, 1), nil}, api.OK, api.OK}, {[][]int{many(101, 1), nil}, api.ErrLong, api.ErrLong}, {[][]int{nil, many(101, 0)}, api.ErrLong, api.ErrLong}, {[][]int{many(100, 0), nil}, api.ErrCycle, api.OK}, {[][]int{nil, many(1<<20, 7)}, api.ErrLong, api.ErrLong}, {[][]int{{7}, many(101, 0)}, api.ErrLong, api.ErrLong}, {[][]int{many(101, 7)}, api.ErrLong, api.ErrLong}, {[][]int{many(100, 7)}, api.ErrForm, api.ErrForm}, {slices.Repeat([][]int{{-1}}, 101), api.ErrLong, api.ErrLong}, {slices.Repeat([][]int{{-1}}, 100), api.ErrForm, api.ErrForm}, {slices.Repeat([][]int{many(100, 99)}, 100), api.ErrCycle, api.OK},
		{[][]int{{7}}, api.ErrForm, api.ErrForm}, {[][]int{{1}}, api.ErrForm, api.ErrForm}, {[][]int{{-1}}, api.ErrForm, api.ErrForm}, {[][]int{{math.MaxInt}}, api.ErrForm, api.ErrForm}, {[][]int{{math.MinInt}}, api.ErrForm, api.ErrForm}, {[][]int{{}, {0, 1, 2}}, api.ErrForm, api.ErrForm}, {[][]int{{0}, {2}}, api.ErrForm, api.ErrForm}, {[][]int{{}, {0, -1}}, api.ErrForm, api.ErrForm}, {append(make([][]int, 99), []int{99}), api.ErrCycle, api.OK}, {append(make([][]int, 99), []int{100}), api.ErrForm, api.ErrForm}, {append(make([][]int, 99), []int{98}), api.OK, api.OK},
	} {
		if l, e := Order(c.needs); e != c.order || e != api.OK && len(l) != 0 {
			t.Errorf("case %d: Order: %v %v, want %v", i, l, e, c.order)
		}
		if l, e := Levels(c.needs); e != c.order || e != api.OK && len(l) != 0 {
			t.Errorf("case %d: Levels: %v %v, want %v", i, l, e, c.order)
		}
		if l, e := Reach(c.needs, 0); e != c.zero || e != api.OK && len(l) != 0 {
			t.Errorf("case %d: Reach: %v %v, want %v", i, l, e, c.zero)
		}
		for _, from := range []int{-1, math.MinInt, len(c.needs), len(c.needs) + 1, math.MaxInt} {
			if l, e := Reach(c.needs, from); e != api.ErrArg || len(l) != 0 {
				t.Errorf("case %d: Reach from %d: %v %v", i, from, l, e)
			}
		}
		if len(c.needs) <= 101 {
			hold(t, c.needs)
		}
	}
}

// P16.1, P16.2: each graph of at most four things.
func TestAllSmall(t *testing.T) {
	for n := range 5 {
		for edges := range 1 << (n * n) {
			needs := make([][]int, n)
			for k := range n * n {
				if edges>>k&1 == 1 {
					needs[k/n] = append(needs[k/n], k%n)
				}
			}
			hold(t, needs)
		}
	}
}

// P16.1, P16.2: random graphs of any size, most of them without a cycle.
func TestRandom(t *testing.T) {
	s := &source{state: 16}
	seen := map[api.Errno]int{}
	for range 400 {
		n := 1 + s.below(100)
		names := make([]int, n) // a thing needs those whose names are less
		for i := range names {
			names[i] = i
			k := s.below(i + 1)
			names[i], names[k] = names[k], names[i]
		}
		needs := make([][]int, n)
		for range s.below(3 * n) {
			a, b := s.below(n), s.below(n)
			if names[a] < names[b] && s.below(50) > 0 {
				a, b = b, a
			}
			if a != b {
				needs[a] = append(needs[a], b)
			}
		}
		if at := s.below(10 * n); at < n {
			needs[at] = append(needs[at], n-s.below(2)*(n+1)) // n or -1: no thing
		}
		seen[hold(t, needs)]++
	}
	if seen[api.OK] < 100 || seen[api.ErrCycle] < 50 || seen[api.ErrForm] < 10 {
		t.Error(seen)
	}
}

// P16.3: nothing is put into the spare room of an argument, and results are new.
func TestNewMemory(t *testing.T) {
	// Four things, with spare room behind their list, and behind each list of it.
	room := func(list ...int) []int { return append(list, 9, 9)[:len(list)] }
	made := func() [][]int {
		return [][]int{room(1, 2), room(2), room(), room(0, 1), {9}, {9}}[:4]
	}
	needs, kept := made(), made()
	for _, call := range []func() ([]int, api.Errno){
		func() ([]int, api.Errno) { return Order(needs) }, func() ([]int, api.Errno) { return Levels(needs) }, func() ([]int, api.Errno) { return Reach(needs, 3) },
	} {
		first, e := call()
		want := slices.Clone(first)
		if len(first) != 4 || e != api.OK {
			t.Error(first, e)
		}
		first = append(first, 77, 77)
		for i := range first[:cap(first)] {
			first[:cap(first)][i] = 77
		}
		if again, _ := call(); !slices.Equal(again, want) {
			t.Error(again, want)
		}
	}
	if len(needs) != 4 || cap(needs) != cap(kept) {
		t.Error(needs, kept)
	}
	for i, want := range kept[:cap(kept)] {
		got := needs[:cap(needs)][i]
		if len(got) != len(want) || !slices.Equal(got[:cap(got)], want[:cap(want)]) {
			t.Error(i, got[:cap(got)], want[:cap(want)])
		}
	}
}
