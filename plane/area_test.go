package plane

import (
	"math"
	"math/big"
	"slices"
	"testing"

	"tariff/api"
)

// source makes numbers, the same ones in every test run.
type source struct{ state uint64 }

func (s *source) below(n int) int {
	s.state = s.state*6364136223846793005 + 1442695040888963407
	x := s.state
	x ^= x >> 33
	x *= 0xff51afd7ed558ccd
	return int((x ^ x>>29) >> 1 % uint64(n))
}

// wantArea is twice the area by the heights of each two neighbours: the sum of (x of p - x of q) * (y of p + y of q).
func wantArea(line []complex128) *big.Int {
	sum := new(big.Int)
	for i, p := range line {
		q := line[0]
		if i+1 < len(line) {
			q = line[i+1]
		}
		across := big.NewInt(int64(real(p)) - int64(real(q)))
		sum.Add(sum, across.Mul(across, big.NewInt(int64(imag(p))+int64(imag(q)))))
	}
	return sum
}

// holdArea holds Area against that.
func holdArea(t *testing.T, line []complex128) {
	t.Helper()
	if n, e := Area(line); big.NewInt(int64(n)).Cmp(wantArea(line)) != 0 || e != api.OK {
		t.Errorf("%.100v: %v %v, want %v", line, n, e, wantArea(line))
	}
}

// P23.2: random lines, which may cross themselves.
func TestAreaRandom(t *testing.T) {
	s := &source{state: 23}
	for i := range 3000 {
		n := s.below(9)
		if i%100 == 0 {
			n = 4000 - s.below(3)
		}
		size := []int{2, 9, 1000000}[s.below(3)]
		line := make([]complex128, n)
		for k := range line {
			line[k] = complex(float64(s.below(2*size+1)-size), float64(s.below(2*size+1)-size))
		}
		holdArea(t, line)
		slices.Reverse(line)
		holdArea(t, line)
	}
}

// P23.2: every line of at most four points of a small plane.
func TestAreaSmall(t *testing.T) {
	var all func(line []complex128)
	all = func(line []complex128) {
		holdArea(t, line)
		if len(line) == 4 {
			return
		}
		for k := range 9 {
			all(append(line, complex(float64(k%3-1), float64(k/3))))
		}
	}
	all(nil)
}

// P23.2: lines around squares of cells: twice as many as there are cells, on the left side.
func TestAreaCells(t *testing.T) {
	for wide := 1; wide <= 6; wide++ {
		for high := 1; high <= 6; high++ {
			// A stair: of the row y, the first min(wide, y + 1) cells.
			line, cells := []complex128{0}, 0
			for y := range high {
				row := min(wide, high-y)
				line = append(line, complex(float64(row), float64(y)), complex(float64(row), float64(y+1)))
				cells += row
			}
			line = append(line, complex(0, float64(high)))
			for shift := range line {
				turned := slices.Concat(line[shift:], line[:shift])
				if n, e := Area(turned); n != 2*cells || e != api.OK {
					t.Error(turned, n, e)
				}
				slices.Reverse(turned)
				if n, e := Area(turned); n != -2*cells || e != api.OK {
					t.Error(turned, n, e)
				}
			}
		}
	}
}

// P23.2, P1: the longest lines around the farthest points, and the errors in their order.
func TestAreaLimits(t *testing.T) {
	round := []complex128{-1000000 - 1000000i, 1000000 - 1000000i, 1000000 + 1000000i, -1000000 + 1000000i}
	line := slices.Repeat(round, 1000)
	if n, e := Area(line); n != 8000000000000000 || e != api.OK {
		t.Error(n, e)
	}
	slices.Reverse(line)
	if n, e := Area(line); n != -8000000000000000 || e != api.OK {
		t.Error(n, e)
	}
	for _, c := range []struct {
		line []complex128
		want api.Errno
	}{
		{line, api.OK}, {line[1:], api.OK}, {append(line, 0), api.ErrLong}, {slices.Repeat(line, 30), api.ErrLong}, {append(slices.Clone(line), 0.5), api.ErrForm}, {append([]complex128{complex(0, math.NaN())}, line...), api.ErrForm}, {[]complex128{0, 1000001}, api.ErrForm}, {[]complex128{-1000001i, 0}, api.ErrForm}, {append(line[:3999:3999], 2000000), api.ErrForm},
	} {
		if n, e := Area(c.line); e != c.want || e != api.OK && n != 0 {
			t.Errorf("%.100v: %v %v, want %v", c.line, n, e, c.want)
		}
	}
	if n, e := Area([]complex128{complex(minus, minus), complex(2, minus), 2 + 1i, complex(minus, 1)}); n != 4 || e != api.OK {
		t.Error(n, e)
	}
}

// P23.3: arguments stay as they are, their spare room included, and results are new.
func TestMemory(t *testing.T) {
	room := []complex128{0, 2, 2 + 1i, 1i, 99, 99}
	box := []complex128{3i, 1 + 3i, 99, 99}
	cell, list := []int{2, 2, 99, 99}, []int{0, 1, 5, 99, 99}
	kept := []any{slices.Clone(room), slices.Clone(box), slices.Clone(cell), slices.Clone(list)}
	if n, e := Area(room[:4]); n != 4 || e != api.OK {
		t.Error(n, e)
	}
	if n, e := Size(box[:2]); n != 6 || e != api.OK {
		t.Error(n, e)
	}
	if ok, e := Holds(box[:2], cell[:2]); !ok || e != api.OK {
		t.Error(ok, e)
	}
	first, e := Runs(list[:3])
	if e != api.OK || !slices.Equal(first, []complex128{2i, 5 + 6i}) {
		t.Error(first, e)
	}
	for i := range first[:cap(first)] {
		first[:cap(first)][i] = 77
	}
	if again, e := Runs(list[:3]); e != api.OK || !slices.Equal(again, []complex128{2i, 5 + 6i}) {
		t.Error(again, e)
	}
	if !slices.Equal(room, kept[0].([]complex128)) || !slices.Equal(box, kept[1].([]complex128)) || !slices.Equal(cell, kept[2].([]int)) || !slices.Equal(list, kept[3].([]int)) {
		t.Error(room, box, cell, list)
	}
}
