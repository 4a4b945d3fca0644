package outline

import (
	"math"
	"slices"
	"testing"

	"tariff/api"
)

// isLines tells whether lines fit in a plane.
func isLines(wide, high int, lines [][]complex128) bool {
	for _, line := range lines {
		for i, p := range line {
			q := line[(i+1)%len(line)]
			if !isWhole(real(p), wide) || !isWhole(imag(p), high) || real(p) != real(q) && imag(p) != imag(q) {
				return false
			}
		}
	}
	return true
}

// holdFill holds Fill against what is wanted, and tells whether there are cells.
func holdFill(t *testing.T, wide, high int, lines [][]complex128) bool {
	t.Helper()
	points := 0
	for _, line := range lines {
		points += len(line)
	}
	var want []complex128
	wantE := wantCheck(wide, high, points)
	switch {
	case wantE != api.OK:
	case isLines(wide, high, lines):
		want = wantFill(wide, high, lines)
	default:
		wantE = api.ErrForm
	}
	if got, e := Fill(wide, high, lines); !slices.Equal(got, want) || e != wantE {
		t.Errorf("Fill(%d, %d, %s): %s %v, want %s %v", wide, high, brief(lines), brief(got), e, brief(want), wantE)
	}
	return len(want) > 0
}

// P25.2: every line of at most five points of small planes; so with lines that cross, go back or stand still.
func TestFillSmall(t *testing.T) {
	filled := 0
	for _, size := range [][2]int{{1, 1}, {2, 1}, {1, 2}, {2, 2}} {
		wide, high := size[0], size[1]
		var all func(line []complex128)
		all = func(line []complex128) {
			if holdFill(t, wide, high, [][]complex128{line}) {
				filled++
			}
			if len(line) == 5 {
				return
			}
			for n := range (wide + 1) * (high + 1) {
				all(append(line, complex(float64(n/(high+1)), float64(n%(high+1)))))
			}
		}
		all(nil)
	}
	if filled < 500 {
		t.Error(filled)
	}
}

// walk is a random line: each point is beside or above the one ahead of it, and the last one beside or above the first.
func (s *source) walk(wide, high, n int) []complex128 {
	x, y := s.below(wide+1), s.below(high+1)
	line := []complex128{complex(float64(x), float64(y))}
	for range n {
		if s.below(2) == 0 {
			x = s.below(wide + 1)
		} else {
			y = s.below(high + 1)
		}
		line = append(line, complex(float64(x), float64(y)))
	}
	if s.below(9) > 0 {
		line = append(line, complex(real(line[0]), float64(y)))
	}
	return line
}

// P25.2: random lines, some of them many, long, or in a great plane; some with a point changed.
func TestFillRandom(t *testing.T) {
	s := &source{state: 255}
	filled := 0
	for i := range 4000 {
		wide, high, n := 1+s.below(6), 1+s.below(6), 1+s.below(12)
		if i%200 == 0 {
			wide = pick(s, 1, 2, 50, 63, 2000, 4000)
			high, n = 4000/wide, 1+s.below(50)
		}
		if i%200 == 1 {
			n = 990
		}
		var lines [][]complex128
		for range s.below(4) {
			lines = append(lines, s.walk(wide, high, n))
		}
		if len(lines) > 0 && s.below(4) == 0 {
			line := lines[s.below(len(lines))]
			p := &line[s.below(len(line))]
			*p = pick(s, *p+1, *p-1, *p+1i, *p-1i, *p+0.5, *p+0.5i, -*p, complex(imag(*p), real(*p)), complex(pick(s, odd()...), imag(*p)), complex(real(*p), pick(s, odd()...)))
		}
		if holdFill(t, wide, high, lines) {
			filled++
		}
	}
	if filled < 1000 {
		t.Error(filled)
	}
}

// P25.2, P1: the errors in their order, and the planes and lines at the limits.
func TestFillErrors(t *testing.T) {
	round := slices.Repeat([]complex128{0, 1, 1 + 1i, 1i}, 1000)
	nan := []complex128{complex(math.NaN(), 0)}
	for _, c := range []struct {
		wide, high int
		lines      [][]complex128
		want       api.Errno
		cells      int
	}{
		{-1, 2, nil, api.ErrArg, 0}, {2, -1, nil, api.ErrArg, 0}, {math.MinInt, math.MinInt, nil, api.ErrArg, 0}, {-1, 5000, [][]complex128{nan}, api.ErrArg, 0}, {0, -1, [][]complex128{round, round}, api.ErrArg, 0},
		{1, 4001, nil, api.ErrLong, 0}, {4001, 1, nil, api.ErrLong, 0}, {math.MaxInt, 2, nil, api.ErrLong, 0}, {1 << 32, 1 << 32, [][]complex128{nan}, api.ErrLong, 0}, {1, 4001, [][]complex128{nan}, api.ErrLong, 0},
		{1, 1, [][]complex128{round}, api.OK, 1}, {1, 1, [][]complex128{round[2:], {0, 0}}, api.OK, 1}, {1, 1, [][]complex128{round, {0}}, api.ErrLong, 0}, {1, 1, [][]complex128{round, nan}, api.ErrLong, 0}, {1, 1, [][]complex128{round[1:], nan}, api.ErrForm, 0}, {1, 1, [][]complex128{round[2:], {0}, {0}, {0}}, api.ErrLong, 0}, {0, 0, [][]complex128{make([]complex128, 4001)}, api.ErrLong, 0}, {1, 1, slices.Repeat([][]complex128{nil}, 5000), api.OK, 0},
		{0, 0, [][]complex128{{0}, {0, 0}}, api.OK, 0}, {0, 0, [][]complex128{{1}}, api.ErrForm, 0}, {0, 3, [][]complex128{{0, 3i}}, api.OK, 0}, {0, 3, [][]complex128{{0, 4i}}, api.ErrForm, 0}, {3, 0, [][]complex128{{0, 3}}, api.OK, 0}, {3, 0, [][]complex128{{0, 4}}, api.ErrForm, 0},
		{math.MaxInt, 0, [][]complex128{{0, 1 << 62}}, api.OK, 0}, {0, math.MaxInt, [][]complex128{{complex(0, 1<<62), 0}}, api.OK, 0}, {math.MaxInt, 0, [][]complex128{{1 << 63}}, api.ErrForm, 0}, {0, math.MaxInt, [][]complex128{{complex(0, 1<<63)}}, api.ErrForm, 0}, {math.MaxInt, 0, [][]complex128{{1e300}}, api.ErrForm, 0}, {1<<53 + 3, 0, [][]complex128{{1<<53 + 2}}, api.OK, 0}, {1<<53 + 3, 0, [][]complex128{{1<<53 + 4}}, api.ErrForm, 0}, {1 << 62, 0, [][]complex128{{1 << 62}}, api.OK, 0}, {1 << 40, 0, [][]complex128{{0, 1 << 40}}, api.OK, 0}, {0, 1 << 40, [][]complex128{{0, complex(0, 1<<40), 0, 1i}}, api.OK, 0}, {1<<62 - 1, 0, [][]complex128{{1 << 62}}, api.ErrForm, 0},
		{1, 4000, [][]complex128{{0, 1, 1 + 4000i, 4000i}}, api.OK, 4000}, {4000, 1, [][]complex128{{1i, 4000 + 1i, 4000, 0}}, api.OK, 4000}, {1, 4000, [][]complex128{{4001i}}, api.ErrForm, 0}, {4000, 1, [][]complex128{{4001}}, api.ErrForm, 0}, {63, 63, [][]complex128{{63, 63 + 63i, 63i, 0}}, api.OK, 3969},
	} {
		got, e := Fill(c.wide, c.high, c.lines)
		if e != c.want || len(got) != c.cells {
			t.Errorf("Fill(%d, %d, %s): %s %v, want %v", c.wide, c.high, brief(c.lines), brief(got), e, c.want)
		}
	}
}

// P25.2: lines up and down all rows, as often as there may be points.
func TestFillLong(t *testing.T) {
	up := slices.Repeat([]complex128{1, 1 + 4000i}, 2000)
	holdFill(t, 1, 4000, [][]complex128{up})
	tall := slices.Repeat([]complex128{0, 4000i, 1 + 4000i, 1}, 1000)
	holdFill(t, 1, 4000, [][]complex128{tall})
	slices.Reverse(tall)
	holdFill(t, 1, 4000, [][]complex128{tall[:2000], tall[2000:]})
}

// P25.2: the sign of a part that is 0 counts for nothing.
func TestFillZero(t *testing.T) {
	minus := math.Copysign(0, -1)
	line := []complex128{complex(minus, minus), complex(2, minus), 2 + 1i, complex(minus, 1)}
	if got, e := Fill(2, 1, [][]complex128{line}); !slices.Equal(got, []complex128{0, 1}) || e != api.OK {
		t.Error(got, e)
	}
}
