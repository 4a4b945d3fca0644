package plane

import (
	"math"
	"slices"

	"tariff/api"
)

const (
	maxPart = 1000000    // how far the parts of a point may be from 0
	maxSize = 1000000000 // cells that are counted
)

// whole tells whether a number is a whole one from one number to another. NaN is not, since it equals nothing.
func whole(x, from, to float64) bool {
	return x == math.Trunc(x) && x >= from && x <= to
}

// isBox tells whether a list is a box.
func isBox(box []complex128) bool {
	return len(box) <= api.MaxCols && !slices.ContainsFunc(box, func(s complex128) bool { return !Span(s) })
}

// mirrored is the point with the opposite imaginary part.
func mirrored(p complex128) complex128 {
	return complex(real(p), -imag(p))
}
