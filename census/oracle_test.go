package census

import (
	"fmt"
	"math"

	"tariff/api"
)

// What the chapter says, with whole numbers as the two parts.

// pair is a whole complex number: its real part and its imaginary part.
type pair struct{ re, im int }

// turn is a pair times i so many times.
func turn(p pair, quarters int) pair {
	switch ((quarters % 4) + 4) % 4 {
	case 1:
		return pair{-p.im, p.re}
	case 2:
		return pair{-p.re, -p.im}
	case 3:
		return pair{p.im, -p.re}
	}
	return p
}

// wantWave is the wave of counts, each with its own power.
func wantWave(counts []int) [4]complex128 {
	var w [4]complex128
	for j := range w {
		sum := pair{}
		for k, n := range counts {
			p := turn(pair{n, 0}, j*k)
			sum = pair{sum.re + p.re, sum.im + p.im}
		}
		w[j] = complex(float64(sum.re), float64(sum.im))
	}
	return w
}

// wantBack is the counts of a wave, or none: four times each of them is the sum of what is turned back.
func wantBack(w [4]complex128) ([4]int, bool) {
	var c [4]int
	for r := range c {
		sum := pair{}
		for j, z := range w {
			for _, x := range []float64{real(z), imag(z)} {
				if math.IsNaN(x) || math.Abs(x) > 1<<40 || x != math.Floor(x) {
					return [4]int{}, false
				}
			}
			p := turn(pair{int(real(z)), int(imag(z))}, -j*r)
			sum = pair{sum.re + p.re, sum.im + p.im}
		}
		if sum.im != 0 || sum.re%4 != 0 || sum.re < 0 || sum.re > 4000000 {
			return [4]int{}, false
		}
		c[r] = sum.re / 4
	}
	return c, true
}

// wantCheck is the error of Wave.
func wantCheck(counts []int) api.Errno {
	sum := 0
	for _, n := range counts {
		if n < 0 || n > 1000000 {
			return api.ErrArg
		}
		sum += n
	}
	if len(counts) > 4000 || sum > 1000000 {
		return api.ErrLong
	}
	return api.OK
}

// wantShift is counts, each with its remainder moved on.
func wantShift(c [4]int, n int) []int {
	d := make([]int, 4)
	for r := range c {
		d[((r+n%4)%4+4)%4] = c[r]
	}
	return d
}

// wantBoth is how many pairs there are by the remainder of their sum.
func wantBoth(c, e [4]int) []int {
	d := make([]int, 4)
	for p := range c {
		for q := range e {
			d[(p+q)%4] += c[p] * e[q]
		}
	}
	return d
}

// brief is the beginning of what something looks like.
func brief(x any) string {
	return fmt.Sprintf("%.300s", fmt.Sprint(x))
}

// source makes numbers, the same ones in every test run.
type source struct{ state uint64 }

func (s *source) below(n int) int {
	s.state = s.state*6364136223846793005 + 1442695040888963407
	x := s.state
	x ^= x >> 33
	x *= 0xff51afd7ed558ccd
	return int((x ^ x>>29) >> 1 % uint64(n))
}

// pick is one of some things.
func pick[T any](s *source, list ...T) T {
	return list[s.below(len(list))]
}
