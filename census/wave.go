package census

import "math"

// maxCount is the greatest count, and the greatest sum of counts.
const maxCount = 1000000

// turned is a number times 1i so many times, or times -1i if they are less than none.
func turned(z complex128, quarters int) complex128 {
	for range quarters & 3 {
		z *= 1i
	}
	return z
}

// waveOf is the wave of the counts by their remainders.
func waveOf(c [4]int) [4]complex128 {
	var w [4]complex128
	for j := range w {
		for r, n := range c {
			w[j] += turned(complex(float64(n), 0), j*r)
		}
	}
	return w
}

// mixed is what the counts of a wave would be, whether it is one or not.
func mixed(w [4]complex128) [4]float64 {
	var c [4]float64
	for r := range c {
		for j, z := range w {
			c[r] += real(turned(z, -j*r)) / 4
		}
	}
	return c
}

// isCount tells whether a number is a whole one that a count may be. NaN is not, since it equals nothing.
func isCount(x float64) bool {
	return x == math.Trunc(x) && x >= 0 && x <= maxCount
}
