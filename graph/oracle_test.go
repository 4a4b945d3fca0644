package graph

import (
	"fmt"
	"slices"
	"testing"

	"tariff/api"
)

// wantCheck is the error that comes ahead of those of the table.
func wantCheck(needs [][]int) api.Errno {
	long := func(list []int) bool { return len(list) > 100 }
	if len(needs) > 100 || slices.ContainsFunc(needs, long) {
		return api.ErrLong
	}
	all := slices.Concat(needs...)
	if len(all) > 0 && (slices.Min(all) < 0 || slices.Max(all) > len(needs)-1) {
		return api.ErrForm
	}
	return api.OK
}

// wantOrder is Order: each time all things are asked.
func wantOrder(needs [][]int) ([]int, api.Errno) {
	if e := wantCheck(needs); e != api.OK {
		return nil, e
	}
	var order []int
	open := func(thing int) bool { return !slices.Contains(order, thing) }
	for range needs {
		least := len(needs)
		for thing, list := range needs {
			if open(thing) && !slices.ContainsFunc(list, open) {
				least = min(least, thing)
			}
		}
		if least == len(needs) {
			return nil, api.ErrCycle
		}
		order = append(order, least)
	}
	return order, api.OK
}

// ways tells from where to where there is a way of needs, by way of any things.
func ways(needs [][]int) [][]bool {
	way := make([][]bool, len(needs))
	for i, list := range needs {
		way[i] = make([]bool, len(needs))
		for _, need := range list {
			way[i][need] = true
		}
	}
	for by := range needs {
		for from := range needs {
			for to := range needs {
				way[from][to] = way[from][to] || way[from][by] && way[by][to]
			}
		}
	}
	return way
}

// wantReach is Reach.
func wantReach(needs [][]int, from int, way [][]bool) ([]int, api.Errno) {
	if !(0 <= from && from < len(needs)) {
		return nil, api.ErrArg
	}
	if e := wantCheck(needs); e != api.OK {
		return nil, e
	}
	var list []int
	for to := range needs {
		if to == from || way[from][to] {
			list = append(list, to)
		}
	}
	return list, api.OK
}

// wantLevels is Levels: a level holds what needs something of the level below, and nothing above that.
func wantLevels(needs [][]int, way [][]bool) ([]int, api.Errno) {
	if e := wantCheck(needs); e != api.OK {
		return nil, e
	}
	levels := make([]int, len(needs))
	for i := range needs {
		if way[i][i] {
			return nil, api.ErrCycle
		}
	}
	for changed := true; changed; {
		changed = false
		for i, list := range needs {
			for _, need := range list {
				if levels[i] <= levels[need] {
					levels[i]++
					changed = true
				}
			}
		}
	}
	return levels, api.OK
}

// hold holds the three functions against what is wanted, and tells the error that is wanted of Order.
func hold(t *testing.T, needs [][]int) api.Errno {
	t.Helper()
	before := fmt.Sprint(needs)
	var way [][]bool
	if wantCheck(needs) == api.OK {
		way = ways(needs)
	}
	want, wantErr := wantOrder(needs)
	if l, e := Order(needs); !slices.Equal(l, want) || e != wantErr {
		t.Errorf("Order(%v): %v %v, want %v %v", needs, l, e, want, wantErr)
	}
	levels, levelsErr := wantLevels(needs, way)
	if l, e := Levels(needs); !slices.Equal(l, levels) || e != levelsErr {
		t.Errorf("Levels(%v): %v %v, want %v %v", needs, l, e, levels, levelsErr)
	}
	for from := -1; from <= len(needs); from++ {
		reached, reachErr := wantReach(needs, from, way)
		if l, e := Reach(needs, from); !slices.Equal(l, reached) || e != reachErr {
			t.Errorf("Reach(%v, %d): %v %v, want %v %v", needs, from, l, e, reached, reachErr)
		}
	}
	if after := fmt.Sprint(needs); after != before {
		t.Errorf("%s is changed to %s", before, after)
	}
	return wantErr
}

// source makes numbers, the same ones in every test run.
type source struct{ state uint64 }

func (s *source) below(n int) int {
	s.state = s.state*6364136223846793005 + 1442695040888963407
	x := s.state
	x ^= x >> 33
	x *= 0xff51afd7ed558ccd
	return int((x ^ x>>29) >> 1 % uint64(n))
}
