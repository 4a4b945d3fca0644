package outline

import (
	"fmt"
	"math"
	"slices"
	"testing"

	"tariff/api"
	"tariff/plane"
)

// What the chapter says, with whole numbers: the directions 1, i, -1 and -i are 0 to 3.

// edge is where an edge begins, and its direction.
type edge struct{ x, y, way int }

// end is where it ends.
func (e edge) end() (x, y int) {
	return e.x + []int{1, 0, -1, 0}[e.way], e.y + []int{0, 1, 0, -1}[e.way]
}

// wantSides is the sides of a set of cells, in order.
func wantSides(set map[[2]int]bool) []edge {
	var list []edge
	for p := range set {
		x, y := p[0], p[1]
		if !set[[2]int{x, y - 1}] {
			list = append(list, edge{x, y, 0})
		}
		if !set[[2]int{x + 1, y}] {
			list = append(list, edge{x + 1, y, 1})
		}
		if !set[[2]int{x, y + 1}] {
			list = append(list, edge{x + 1, y + 1, 2})
		}
		if !set[[2]int{x - 1, y}] {
			list = append(list, edge{x, y + 1, 3})
		}
	}
	slices.SortFunc(list, func(a, b edge) int { return slices.Compare([]int{a.x, a.y, a.way}, []int{b.x, b.y, b.way}) })
	return list
}

// wantLines is the lines around a set of cells.
func wantLines(set map[[2]int]bool) [][]complex128 {
	sides := wantSides(set)
	left := map[edge]bool{}
	for _, s := range sides {
		left[s] = true
	}
	var lines [][]complex128
	for _, first := range sides {
		if !left[first] {
			continue
		}
		var all []edge
		for s := first; ; {
			all = append(all, s)
			delete(left, s)
			x, y := s.end()
			if x == first.x && y == first.y {
				break
			}
			ways := []int{(s.way + 1) % 4, s.way, (s.way + 3) % 4}
			at := slices.IndexFunc(ways, func(way int) bool { return left[edge{x, y, way}] })
			s = edge{x, y, ways[at]}
		}
		var corners []complex128
		for i, s := range all {
			if s.way != all[(i+len(all)-1)%len(all)].way {
				corners = append(corners, complex(float64(s.x), float64(s.y)))
			}
		}
		lines = append(lines, corners)
	}
	return lines
}

// wantFill is the cells within lines: each cell by all edges on its left.
func wantFill(wide, high int, lines [][]complex128) []complex128 {
	edges := map[edge]int{}
	for _, line := range lines {
		for i, p := range line {
			q := line[0]
			if i+1 < len(line) {
				q = line[i+1]
			}
			for p != q {
				way := 0
				switch {
				case imag(q) > imag(p):
					way = 1
				case real(q) < real(p):
					way = 2
				case imag(q) < imag(p):
					way = 3
				}
				e := edge{int(real(p)), int(imag(p)), way}
				edges[e]++
				x, y := e.end()
				p = complex(float64(x), float64(y))
			}
		}
	}
	var cells []complex128
	for x := range wide {
		for y := range high {
			n := 0
			for left := range x + 1 {
				n += edges[edge{left, y + 1, 3}] - edges[edge{left, y, 1}]
			}
			if n != 0 {
				cells = append(cells, complex(float64(x), float64(y)))
			}
		}
	}
	return cells
}

// isWhole tells whether a number is one of the whole numbers from 0 to another.
func isWhole(x float64, most int) bool {
	for n := range most + 1 {
		if float64(n) == x {
			return true
		}
	}
	return false
}

// wantCheck is the error of Trace, and of Fill, of a small plane, or of one that is too long.
func wantCheck(wide, high, elements int) api.Errno {
	switch {
	case wide < 0 || high < 0:
		return api.ErrArg
	case float64(wide)*float64(high) > 4000 || elements > 4000:
		return api.ErrLong
	}
	return api.OK
}

// same tells whether two lists of lines are equal, whether they are nil or empty.
func same(a, b [][]complex128) bool {
	return slices.EqualFunc(a, b, func(a, b []complex128) bool { return slices.Equal(a, b) })
}

// brief is the beginning of what something looks like.
func brief(x any) string {
	return fmt.Sprintf("%.300s", fmt.Sprint(x))
}

// hold holds Trace of a set of cells, in an order and with some twice, against what is wanted, and Fill and the areas
// against the set. It answers the lines.
func hold(t *testing.T, s *source, wide, high int, set map[[2]int]bool) [][]complex128 {
	t.Helper()
	var cells, given []complex128
	for x := range wide {
		for y := range high {
			if set[[2]int{x, y}] {
				cells = append(cells, complex(float64(x), float64(y)))
			}
		}
	}
	given = slices.Clone(cells)
	for range min(s.below(3), len(cells), 4000-len(cells)) {
		given = append(given, cells[s.below(len(cells))])
	}
	mix(s, given)
	want := wantLines(set)
	got, e := Trace(wide, high, given)
	if !same(got, want) || e != api.OK {
		t.Fatalf("Trace(%d, %d, %s): %s %v, want %s", wide, high, brief(given), brief(got), e, brief(want))
	}
	points, area, long := 0, 0, false
	for _, line := range got {
		points, long = points+len(line), long || len(line) > 4000
		n, e := plane.Area(line)
		area += n
		if e == api.OK == (len(line) > 4000) {
			t.Errorf("%s: %v", brief(line), e)
		}
	}
	if !long && area != 2*len(set) {
		t.Errorf("%d %d %s: an area of %d", wide, high, brief(given), area)
	}
	wantE := api.OK
	if points > 4000 {
		cells, wantE = nil, api.ErrLong
	}
	if back, e := Fill(wide, high, got); !slices.Equal(back, cells) || e != wantE {
		t.Fatalf("Fill(%d, %d, %s): %s %v, want %s %v", wide, high, brief(got), brief(back), e, brief(cells), wantE)
	}
	return got
}

// source makes numbers, the same ones in every test run.
type source struct{ state uint64 }

func (s *source) below(n int) int {
	s.state = s.state*6364136223846793005 + 1442695040888963407
	x := s.state
	x ^= x >> 33
	x *= 0xff51afd7ed558ccd
	return int((x ^ x>>29) >> 1 % uint64(n))
}

// pick is one of some things.
func pick[T any](s *source, list ...T) T {
	return list[s.below(len(list))]
}

// mix puts a list in another order.
func mix[T any](s *source, list []T) {
	for i := range list {
		k := s.below(i + 1)
		list[i], list[k] = list[k], list[i]
	}
}

// odd is numbers that are no parts of points of small planes, or have a sign that counts for nothing.
func odd() []float64 {
	return []float64{math.Copysign(0, -1), math.NaN(), math.Inf(1), math.Inf(-1), 0.5, -0.5, -1, -2, 5e-324, 1e300, -1e300, math.Nextafter(1, 0), math.Nextafter(1, 2), 1 << 32, 1 << 53, 1 << 62, 1 << 63, -1 << 63, 4294967297}
}
