package plane

import (
	"math"
	"slices"
	"testing"

	"tariff/api"
)

// minus is the zero that has a sign.
var minus = math.Copysign(0, -1)

// P23.1, P23.2: the chapter's examples.
func TestExamples(t *testing.T) {
	if l, e := Runs([]int{0, 1, 2, 5, 7, 8}); !slices.Equal(l, []complex128{3i, 5 + 6i, 7 + 9i}) || e != api.OK {
		t.Error(l, e)
	}
	if l, e := Runs(nil); len(l) != 0 || e != api.OK {
		t.Error(l, e)
	}
	for _, l := range [][]int{{1, 1}, {-1}, {4000}} {
		if got, e := Runs(l); len(got) != 0 || e != api.ErrArg {
			t.Error(l, got, e)
		}
	}
	if s, ok, e := Meet(0+3i, 2+9i); s != 2+3i || !ok || e != api.OK {
		t.Error(s, ok, e)
	}
	if s, ok, e := Meet(0+3i, 3+4i); s != 0 || ok || e != api.OK {
		t.Error(s, ok, e)
	}
	if s, ok, e := Meet(3+3i, 0+1i); s != 0 || ok || e != api.ErrForm {
		t.Error(s, ok, e)
	}
	for _, c := range []struct {
		box  []complex128
		want int
	}{{[]complex128{3i, 1 + 3i}, 6}, {nil, 1}, {[]complex128{}, 1}} {
		if n, e := Size(c.box); n != c.want || e != api.OK {
			t.Error(c.box, n, e)
		}
	}
	if ok, e := Holds([]complex128{3i, 1 + 3i}, []int{2, 2}); !ok || e != api.OK {
		t.Error(ok, e)
	}
	if ok, e := Holds([]complex128{3i}, []int{3}); ok || e != api.OK {
		t.Error(ok, e)
	}
	for quarters, want := range map[int]complex128{1: -2 + 1i, -1: 2 - 1i, 4000000000: 1 + 2i} {
		if p, e := Turn(1+2i, quarters); p != want || e != api.OK {
			t.Error(quarters, p, e)
		}
	}
	if p, e := Mirror(1 + 2i); p != 1-2i || e != api.OK {
		t.Error(p, e)
	}
	for _, c := range []struct {
		line []complex128
		want int
	}{{[]complex128{0, 2, 2 + 1i, 1i}, 4}, {[]complex128{1i, 2 + 1i, 2, 0}, -4}, {nil, 0}} {
		if n, e := Area(c.line); n != c.want || e != api.OK {
			t.Error(c.line, n, e)
		}
	}
}

// parts are parts of complex numbers, whole and not, near all limits.
func parts() []float64 {
	list := []float64{math.NaN(), math.Inf(1), math.Inf(-1), minus, 0.5, -0.5, 1e300, -1e300, 5e-324, 3999.5, 4000.5, 1000000.5, -1000000.5, 999999.5, math.Nextafter(4000, 5000), math.Nextafter(3999, 0), math.Nextafter(1000000, 2000000), math.Nextafter(1, 0), math.Nextafter(-1000000, -2000000), 1 << 53, 1 << 63, -1 << 63, 4294967296}
	for _, n := range []int{0, 1, 2, 3, 1999, 3998, 3999, 4000, 4001, 8000, 65536, 999998, 999999, 1000000, 1000001, 2000000} {
		list = append(list, float64(n), -float64(n))
	}
	return list
}

// isPart tells whether a number is a whole one between two others, by going through these.
func isPart(x float64, from, to int) bool {
	for n := from; n <= to; n++ {
		if float64(n) == x {
			return true
		}
	}
	return false
}

// P23.1, P23.2, P1: what a span is, and what a point is; what is none makes the error of each call.
func TestSpanPoint(t *testing.T) {
	list := parts()
	spanPart, pointPart := make([]bool, len(list)), make([]bool, len(list))
	for i, x := range list {
		spanPart[i], pointPart[i] = isPart(x, 0, 4000), isPart(x, -1000000, 1000000)
	}
	spans, points := 0, 0
	for i, re := range list {
		for k, im := range list {
			c := complex(re, im)
			span, point := spanPart[i] && spanPart[k] && re < im, pointPart[i] && pointPart[k]
			if Span(c) != span || Point(c) != point {
				t.Error(c, Span(c), Point(c))
			}
			holdSpan(t, c, span)
			holdPoint(t, c, point)
			if span {
				spans++
			}
			if point {
				points++
			}
		}
	}
	if spans < 20 || points < 500 {
		t.Error(spans, points)
	}
}

// form is the error of what is in form or not.
func form(ok bool) api.Errno {
	if ok {
		return api.OK
	}
	return api.ErrForm
}

// holdSpan holds the calls that take spans against whether something is one.
func holdSpan(t *testing.T, c complex128, span bool) {
	t.Helper()
	want, wide, size, zero := form(span), complex128(0), 0, 0
	if span {
		wide, size, zero = c, int(imag(c))-int(real(c)), int(real(c))
	}
	if s, ok, e := Meet(c, 0+4000i); s != wide || ok != span || e != want {
		t.Error(c, s, ok, e)
	}
	if s, ok, e := Meet(0+4000i, c); s != wide || ok != span || e != want {
		t.Error(c, s, ok, e)
	}
	for _, box := range [][]complex128{{c}, {c, 1i}, {3 + 4i, c}, {0 + 1i, c, 7 + 8i}} {
		if n, e := Size(box); n != size || e != want {
			t.Error(box, n, e)
		}
		var cell []int
		for _, s := range box {
			cell = append(cell, int(real(s)))
		}
		cell[slices.IndexFunc(box, func(s complex128) bool { return s == c || s != s })] = zero
		if ok, e := Holds(box, cell); ok != span || e != want {
			t.Error(box, cell, ok, e)
		}
	}
}

// holdPoint holds the calls that take points against whether something is one.
func holdPoint(t *testing.T, c complex128, point bool) {
	t.Helper()
	want := form(point)
	var turned, mirrored complex128
	if point {
		turned, mirrored = complex(-imag(c), real(c)), complex(real(c), -imag(c))
	}
	if p, e := Turn(c, 1); p != turned || e != want {
		t.Error(c, p, e)
	}
	if p, e := Mirror(c); p != mirrored || e != want {
		t.Error(c, p, e)
	}
	for _, line := range [][]complex128{{c}, {c, c}, {0, c}, {c, 0}, {0, c, 0}} {
		if n, e := Area(line); n != 0 || e != want {
			t.Error(line, n, e)
		}
	}
}

// P23.1: every set of numbers from some place on, and lists that are out of order or have other numbers.
func TestRuns(t *testing.T) {
	for _, from := range []int{0, 1, 1995, 3990} {
		for set := range 1 << 10 {
			var list []int
			for k := range 10 {
				if set>>k&1 == 1 {
					list = append(list, from+k)
				}
			}
			holdRuns(t, list)
		}
	}
	some := []int{math.MinInt, -2, -1, 0, 1, 2, 3998, 3999, 4000, 4001, math.MaxInt}
	for _, a := range some {
		holdRuns(t, []int{a})
		for _, b := range some {
			holdRuns(t, []int{a, b})
			for _, c := range some {
				holdRuns(t, []int{a, b, c})
			}
		}
	}
	all := make([]int, 4000)
	for n := range all {
		all[n] = n
	}
	holdRuns(t, all)
	holdRuns(t, append(all, 4000))
	holdRuns(t, append(all, 3999))
	holdRuns(t, make([]int, 100000))
}

// holdRuns holds Runs against the places at which spans begin and end.
func holdRuns(t *testing.T, list []int) {
	t.Helper()
	want := api.OK
	var begins, ends []int
	for i, n := range list {
		if n < 0 || n > 3999 || i > 0 && list[i-1] >= n {
			want = api.ErrArg
		}
		if !slices.Contains(list[max(i-1, 0):i], n-1) {
			begins = append(begins, n)
		}
		if !slices.Contains(list[i+1:min(i+2, len(list))], n+1) {
			ends = append(ends, n+1)
		}
	}
	var spans []complex128
	for i := range begins {
		if want == api.OK {
			spans = append(spans, complex(float64(begins[i]), float64(ends[i])))
		}
	}
	if got, e := Runs(list); !slices.Equal(got, spans) || e != want {
		t.Errorf("%.100v: %v %v, want %v %v", list, got, e, spans, want)
	}
}

// P23.1: every two of some spans, by the numbers that they have.
func TestMeet(t *testing.T) {
	var spans []complex128
	ends := []int{0, 1, 2, 3, 4, 5, 3997, 3998, 3999, 4000}
	for i, to := range ends {
		for _, from := range ends[:i] {
			spans = append(spans, complex(float64(from), float64(to)))
		}
	}
	numbers := func(s complex128) []int {
		var list []int
		for n := int(real(s)); n < int(imag(s)); n++ {
			list = append(list, n)
		}
		return list
	}
	for _, a := range spans {
		for _, b := range spans {
			inB := make(map[int]bool)
			for _, n := range numbers(b) {
				inB[n] = true
			}
			both := slices.DeleteFunc(numbers(a), func(n int) bool { return !inB[n] })
			s, ok, e := Meet(a, b)
			if ok != (len(both) > 0) || e != api.OK || !slices.Equal(numbers(s), both) || !ok && s != 0 {
				t.Error(a, b, s, ok, e)
			}
		}
	}
	if s, ok, e := Meet(complex(minus, 2), complex(minus, 3)); s != 2i || !ok || e != api.OK {
		t.Error(s, ok, e)
	}
	for _, c := range [][2]complex128{{3 + 3i, 3 + 3i}, {1 + 2i, 5 + 4i}, {5 + 4i, 1 + 2i}, {7, 1 + 2i}} {
		if s, ok, e := Meet(c[0], c[1]); s != 0 || ok || e != api.ErrForm {
			t.Error(c, s, ok, e)
		}
	}
}

// P23.1, P1: sizes at the limits, and the errors in their order.
func TestSize(t *testing.T) {
	wide := func(n int) complex128 { return complex(0, float64(n)) }
	far := func(n int) complex128 { return complex(float64(4000-n), 4000) }
	for _, c := range []struct {
		box  []complex128
		want int
		e    api.Errno
	}{
		{[]complex128{wide(4000)}, 4000, api.OK}, {[]complex128{far(1)}, 1, api.OK}, {[]complex128{far(7), wide(3), 2 + 4i}, 42, api.OK},
		{slices.Repeat([]complex128{wide(2)}, 8), 256, api.OK}, {slices.Repeat([]complex128{wide(13)}, 8), 815730721, api.OK}, {slices.Repeat([]complex128{wide(14)}, 8), 0, api.ErrLong}, {slices.Repeat([]complex128{wide(4000)}, 8), 0, api.ErrLong}, {slices.Repeat([]complex128{wide(1)}, 8), 1, api.OK},
		{[]complex128{wide(1000), far(1000), wide(1000)}, 1000000000, api.OK}, {[]complex128{wide(1001), wide(1000), wide(1000)}, 0, api.ErrLong}, {[]complex128{wide(1000), wide(1000), wide(1001)}, 0, api.ErrLong}, {[]complex128{wide(4000), wide(4000), wide(62)}, 992000000, api.OK}, {[]complex128{wide(4000), wide(4000), wide(63)}, 0, api.ErrLong}, {[]complex128{wide(4000), wide(4000), wide(63), wide(1)}, 0, api.ErrLong}, {[]complex128{wide(3125), wide(3200), wide(100)}, 1000000000, api.OK}, {[]complex128{wide(3125), wide(3200), wide(50), wide(2), wide(1)}, 1000000000, api.OK}, {[]complex128{wide(3125), wide(3200), wide(50), wide(3)}, 0, api.ErrLong},
		{slices.Repeat([]complex128{wide(1)}, 9), 0, api.ErrForm}, {slices.Repeat([]complex128{wide(4000)}, 9), 0, api.ErrForm}, {slices.Repeat([]complex128{wide(1)}, 100000), 0, api.ErrForm}, {append(slices.Repeat([]complex128{wide(4000)}, 7), 0), 0, api.ErrForm}, {append([]complex128{4001i}, slices.Repeat([]complex128{wide(4000)}, 7)...), 0, api.ErrForm},
	} {
		if n, e := Size(c.box); n != c.want || e != c.e {
			t.Errorf("%.100v: %v %v, want %v %v", c.box, n, e, c.want, c.e)
		}
	}
}

// P23.1, P1: every cell near some boxes, and the errors in their order.
func TestHolds(t *testing.T) {
	near := []int{math.MinInt, -1, 0, 1, 2, 3, 4, math.MaxInt}
	spans := []complex128{0 + 1i, 0 + 2i, 0 + 4i, 1 + 2i, 1 + 3i, 2 + 4i, 3 + 4i}
	inside := func(s complex128, n int) bool { return float64(n) >= real(s) && float64(n) < imag(s) }
	for _, s := range spans {
		for _, n := range near {
			if ok, e := Holds([]complex128{s}, []int{n}); ok != inside(s, n) || e != api.OK {
				t.Error(s, n, ok, e)
			}
			for _, r := range spans {
				for _, k := range near {
					if ok, e := Holds([]complex128{s, r}, []int{n, k}); ok != (inside(s, n) && inside(r, k)) || e != api.OK {
						t.Error(s, r, n, k, ok, e)
					}
				}
			}
		}
	}
	eight := slices.Repeat([]complex128{1 + 3i}, 8)
	for i := range 8 {
		cell := []int{1, 2, 1, 2, 1, 2, 1, 2}
		if ok, e := Holds(eight, cell); !ok || e != api.OK {
			t.Error(ok, e)
		}
		cell[i] = 3
		if ok, e := Holds(eight, cell); ok || e != api.OK {
			t.Error(i, ok, e)
		}
	}
	for _, c := range []struct {
		box  []complex128
		cell []int
		want api.Errno
	}{
		{nil, nil, api.OK}, {nil, []int{}, api.OK}, {nil, []int{0}, api.ErrArg}, {[]complex128{1i}, nil, api.ErrArg}, {[]complex128{1i}, []int{0, 0}, api.ErrArg}, {[]complex128{0}, nil, api.ErrArg}, {[]complex128{0}, []int{0}, api.ErrForm}, {[]complex128{1i, 0}, []int{5, 0}, api.ErrForm}, {[]complex128{1i, 2}, []int{0, 0, 0}, api.ErrArg}, {slices.Repeat([]complex128{1i}, 9), make([]int, 9), api.ErrForm}, {slices.Repeat([]complex128{1i}, 9), make([]int, 8), api.ErrArg}, {slices.Repeat([]complex128{1i}, 8), make([]int, 9), api.ErrArg}, {slices.Repeat([]complex128{1i}, 8), make([]int, 8), api.OK},
	} {
		if ok, e := Holds(c.box, c.cell); ok != (c.want == api.OK) || e != c.want {
			t.Error(c.box, c.cell, ok, e)
		}
	}
}

// P23.2: turns by any number of quarters, by what is left of it after whole rounds.
func TestTurn(t *testing.T) {
	var quarters []int
	for n := -20; n <= 20; n++ {
		quarters = append(quarters, n, math.MaxInt32+n, math.MinInt32+n, 1<<53+n, 1<<40+n)
	}
	for n := range 9 {
		quarters = append(quarters, math.MaxInt-n, math.MinInt+n)
	}
	all := []int{-1000000, -999999, -3, -1, 0, 1, 2, 1000000}
	for _, x := range all {
		for _, y := range all {
			p := complex(float64(x), float64(y))
			round := [4]complex128{p, complex(float64(-y), float64(x)), complex(float64(-x), float64(-y)), complex(float64(y), float64(-x))}
			for _, q := range quarters {
				left := q % 4
				if left < 0 {
					left += 4
				}
				if got, e := Turn(p, q); got != round[left] || e != api.OK {
					t.Error(p, q, got, e)
				}
			}
			if got, e := Mirror(p); got != complex(float64(x), float64(-y)) || e != api.OK {
				t.Error(p, got, e)
			}
		}
	}
	for _, q := range quarters {
		if p, e := Turn(1000001, q); p != 0 || e != api.ErrForm {
			t.Error(q, p, e)
		}
		if p, e := Turn(complex(minus, minus), q); p != 0 || e != api.OK {
			t.Error(q, p, e)
		}
	}
}
