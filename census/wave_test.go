package census

import (
	"math"
	"slices"
	"testing"

	"tariff/api"
)

// none is what stands beside an error.
var none [4]complex128

// P26.2, P26.3: the chapter's examples.
func TestExamples(t *testing.T) {
	one, e := Wave([]int{1, 2})
	if one != [4]complex128{3, 1 + 2i, -1, 1 - 2i} || e != api.OK {
		t.Error(one, e)
	}
	if c, e := Back(one); c != [4]int{1, 2} || e != api.OK {
		t.Error(c, e)
	}
	five, e := Wave([]int{0, 0, 0, 0, 5})
	if five != [4]complex128{5, 5, 5, 5} || e != api.OK {
		t.Error(five, e)
	}
	if c, e := Back(five); c != [4]int{5} || e != api.OK {
		t.Error(c, e)
	}
	if w, e := Shift(one, 1); w != [4]complex128{3, -2 + 1i, 1, -2 - 1i} || e != api.OK {
		t.Error(w, e)
	}
	if w, e := Shift(one, -1); w != wantWave([]int{2, 0, 0, 1}) || e != api.OK {
		t.Error(w, e)
	}
	if w, e := Both(one, wantWave([]int{1, 1})); w != wantWave([]int{1, 3, 2}) || e != api.OK {
		t.Error(w, e)
	}
	if c, e := Back([4]complex128{1}); c != [4]int{} || e != api.ErrForm {
		t.Error(c, e)
	}
	if c, e := Back(none); c != [4]int{} || e != api.OK {
		t.Error(c, e)
	}
	if w, e := Wave([]int{-1}); w != none || e != api.ErrArg {
		t.Error(w, e)
	}
	if w, e := Wave(nil); w != none || e != api.OK {
		t.Error(w, e)
	}
}

// holdWave holds Wave against what is wanted, and Back of it against the sums by remainders.
func holdWave(t *testing.T, counts []int) {
	t.Helper()
	w, e := Wave(counts)
	if e != wantCheck(counts) || e == api.OK && w != wantWave(counts) || e != api.OK && w != none {
		t.Errorf("Wave(%s): %v %v, want %v", brief(counts), w, e, wantCheck(counts))
	}
	if e != api.OK {
		return
	}
	var sums [4]int
	for k, n := range counts {
		sums[k%4] += n
	}
	if c, e := Back(w); c != sums || e != api.OK {
		t.Errorf("Back of that of %s: %v %v", brief(counts), c, e)
	}
}

// P26.2: lists of every length up to the limit, of small counts and great ones.
func TestWave(t *testing.T) {
	s := &source{state: 261}
	for i := range 4010 {
		n := i
		if i > 40 {
			n = s.below(60)
		}
		if i > 3900 {
			n = i
		}
		counts := make([]int, n)
		for k := range counts {
			counts[k] = s.below(pick(s, 1, 2, 10, 240))
			if s.below(n) == 0 && s.below(3) == 0 {
				counts[k] = pick(s, 250000, 499999, 500000, 999999, 1000000, 1000001, -1, math.MaxInt, math.MinInt)
			}
		}
		holdWave(t, counts)
	}
	for n := range 4002 {
		if n%97 == 0 || n > 3990 {
			counts := make([]int, n)
			holdWave(t, counts)
			holdWave(t, append(counts, 1000000))
			holdWave(t, append(counts, 1000000, 1))
			holdWave(t, append(counts, 1000001))
			holdWave(t, append(counts, -1))
			holdWave(t, append([]int{-1}, counts...))
			holdWave(t, append([]int{999999, 1}, counts...))
			holdWave(t, append([]int{999999, 2}, counts...))
		}
	}
	holdWave(t, slices.Repeat([]int{250}, 4000))
	holdWave(t, append(slices.Repeat([]int{250}, 3999), 251))
	holdWave(t, slices.Repeat([]int{1000000}, 10000))
	holdWave(t, slices.Repeat([]int{math.MaxInt}, 5))
	holdWave(t, append(slices.Repeat([]int{1000000}, 5000), math.MinInt))
}

// holdBack holds Back, and the calls that take waves, against whether something is in form.
func holdBack(t *testing.T, w [4]complex128) bool {
	t.Helper()
	want, ok := wantBack(w)
	e := api.ErrForm
	if ok {
		e = api.OK
	}
	if c, f := Back(w); c != want || f != e {
		t.Errorf("Back(%v): %v %v, want %v %v", w, c, f, want, e)
	}
	shifted, both := none, none
	if ok {
		shifted, both = wantWave(wantShift(want, 3)), wantWave(wantShift(want, 2))
	}
	if x, f := Shift(w, 3); x != shifted || f != e {
		t.Errorf("Shift(%v, 3): %v %v, want %v %v", w, x, f, shifted, e)
	}
	two := wantWave([]int{0, 0, 1})
	for _, ab := range [][2][4]complex128{{w, two}, {two, w}} {
		if x, f := Both(ab[0], ab[1]); x != both || f != e {
			t.Errorf("Both(%v): %v %v, want %v %v", ab, x, f, both, e)
		}
	}
	return ok
}

// P26.2, P26.3: everything that consists of some small whole parts.
func TestBackSmall(t *testing.T) {
	parts := []float64{-2, -1, 0, 1, 2}
	inForm := 0
	for n := range 5 * 5 * 5 * 5 * 5 * 5 * 5 {
		var w [4]complex128
		w[0] = complex(parts[n%5]+2, 0)
		for j := 1; j < 4; j++ {
			w[j] = complex(parts[n/5%5], parts[n/25%5])
			n /= 25
		}
		if holdBack(t, w) {
			inForm++
		}
	}
	if inForm < 20 {
		t.Error(inForm)
	}
}

// P26.2, P26.3: waves of counts within the limits and just beyond, and waves with a part changed.
func TestBack(t *testing.T) {
	s := &source{state: 262}
	inForm := 0
	odd := []float64{math.NaN(), math.Inf(1), math.Inf(-1), 0.5, -0.25, 1e300, -1e300, 5e-324, 1 << 53, 1 << 62, 1 << 63, -1 << 63, 1e15, 4000000.5}
	for range 20000 {
		var c [4]int
		for r := range c {
			c[r] = pick(s, s.below(4), s.below(1000001), 0, 1, 999999, 1000000, 1000001, -1, -s.below(100), 4000000)
			if c[r] > 1000000 && s.below(3) > 0 {
				c[r] = 1000000
			}
			c[r] = max(c[r], -s.below(2)*1000)
		}
		w := wantWave(c[:])
		if s.below(2) == 0 {
			p := &w[s.below(4)]
			change := complex(pick(s, 0, 1, -1, 2, -4, 4, 0.5, 1e-9, pick(s, odd...)), 0)
			if s.below(2) == 0 {
				change = complex(0, real(change))
			}
			*p = pick(s, *p+change, change, -*p, complex(real(*p), -imag(*p)), complex(imag(*p), real(*p)))
		}
		if holdBack(t, w) {
			inForm++
		}
	}
	if inForm < 3000 || inForm > 17000 {
		t.Error(inForm)
	}
}

// P26.2: the sign of a part that is 0 counts for nothing.
func TestBackZero(t *testing.T) {
	minus := math.Copysign(0, -1)
	for _, w := range [][4]complex128{{complex(3, minus), 1 + 2i, complex(-1, minus), 1 - 2i}, {complex(minus, minus), complex(minus, minus), complex(minus, 0), complex(0, minus)}, {complex(5, minus), complex(5, minus), 5, complex(5, minus)}} {
		if !holdBack(t, w) {
			t.Error(w)
		}
	}
}

// P26.3: every shift of some waves, from far below 0 to far above.
func TestShift(t *testing.T) {
	s := &source{state: 263}
	shifts := []int{math.MinInt, math.MinInt + 1, math.MinInt + 2, math.MinInt + 3, math.MaxInt, math.MaxInt - 1, math.MaxInt - 2, math.MaxInt - 3, 1 << 32, -1 << 32, 1<<32 + 1, 4000000001}
	for n := -20; n <= 20; n++ {
		shifts = append(shifts, n)
	}
	for range 300 {
		var c [4]int
		for r := range c {
			c[r] = s.below(pick(s, 2, 10, 1000001))
		}
		for _, n := range shifts {
			w, e := Shift(wantWave(c[:]), n)
			if w != wantWave(wantShift(c, n)) || e != api.OK {
				t.Error(c, n, w, e)
			}
			if back, e := Back(w); !slices.Equal(back[:], wantShift(c, n)) || e != api.OK {
				t.Error(c, n, back, e)
			}
		}
	}
}

// P26.3: pairs of two waves, up to the most that there may be, and beyond.
func TestBoth(t *testing.T) {
	s := &source{state: 264}
	over, beside := 0, [][2][4]int{{{9901}, {101}}, {{1000}, {1000}}, {{1000, 1}, {1000, 0, 0, 1}}, {{1000000, 1000000, 1000000, 1000000}, {1000000, 1000000, 1000000, 1000000}}, {{1000000}, {1, 1, 1, 1}}, {{1000000}, {1, 2}}, {{250000, 250000, 250000, 250000}, {1, 1, 1, 1}}, {{250000, 250000, 250000, 250000}, {2, 1, 1, 1}}, {{0, 9901}, {0, 0, 0, 101}}, {{0, 9901}, {0, 101}}, {{0, 0, 9901}, {0, 101}}, {{}, {1000000}}}
	for range 10000 {
		var c [2][4]int
		for i := range c {
			for r := range c[i] {
				c[i][r] = s.below(pick(s, 1, 2, 10, 600, 600, 1000, 1000001))
			}
		}
		beside = append(beside, c)
	}
	for _, c := range beside {
		d := wantBoth(c[0], c[1])
		want, e := wantWave(d), api.OK
		if slices.Max(d) > 1000000 {
			want, e = none, api.ErrOver
			over++
		}
		if w, f := Both(wantWave(c[0][:]), wantWave(c[1][:])); w != want || f != e {
			t.Error(c, w, f, want, e)
		}
	}
	if over < 1000 || over > 9000 {
		t.Error(over)
	}
	// What is not in form is told ahead of what is too much.
	much, wrong := wantWave([]int{1000000, 1000000}), [4]complex128{1}
	for _, ab := range [][2][4]complex128{{much, wrong}, {wrong, much}, {wrong, wrong}, {much, wantWave([]int{1000001})}, {wantWave([]int{-1}), much}, {much, {complex(math.NaN(), 0)}}} {
		if w, e := Both(ab[0], ab[1]); w != none || e != api.ErrForm {
			t.Error(ab, w, e)
		}
	}
}
