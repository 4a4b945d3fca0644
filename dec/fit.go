package dec

import (
	"math/bits"

	"tariff/api"
	"tariff/wide"
)

// fit fits n / 10^scale, or its negative; scale is from 0 to 76.
func fit(neg bool, n api.Long, scale int) (api.Dec, api.Errno) {
	// A scale beyond the number's own adds zeros only, which settle would drop.
	for s := min(scale, api.MaxScale); s >= 0; s-- {
		coef, e := wide.Round(n, scale-s)
		if e == api.OK && fits(coef) {
			return settle(neg, coef, s), api.OK
		}
	}
	return api.Dec{}, api.ErrOver
}

// settle is coef / 10^scale in form, or its negative, where coef fits and scale
// is from 0 to MaxScale.
func settle(neg bool, coef api.Wide, scale int) api.Dec {
	if coef == (api.Wide{}) {
		return api.Dec{}
	}
	_, zeros := wide.Trim(coef)
	drop := min(zeros, scale)
	q, _ := split(long(coef), drop)
	return api.Dec{Neg: neg, Coef: low(q), Scale: scale - drop}
}

// fits tells whether a coefficient is below 10^MaxDigits.
func fits(coef api.Wide) bool {
	beyond, _ := wide.Ten(api.MaxDigits)
	return wide.Cmp(coef, beyond) < 0
}

// raised is the coefficient that d has at a scale which is not below its own.
func raised(d api.Dec, scale int) api.Long {
	ten, _ := wide.Ten(scale - d.Scale)
	return wide.Mul(d.Coef, ten)
}

// split is the whole part of n / 10^k, and what is left; k is from 0 to 38.
func split(n api.Long, k int) (api.Long, api.Wide) {
	ten, _ := wide.Ten(k)
	q, rest, _ := wide.Div(n, ten)
	return q, rest
}

// long is the same number as a Long.
func long(a api.Wide) api.Long {
	return api.Long{a.Lo, a.Hi, 0, 0}
}

// low is the same number as a Wide, where n is known to be one.
func low(n api.Long) api.Wide {
	return api.Wide{Hi: n[1], Lo: n[0]}
}

// addLong is a + b, where the sum is known to be a Long.
func addLong(a, b api.Long) api.Long {
	var sum api.Long
	var carry uint64
	for i := range sum {
		sum[i], carry = bits.Add64(a[i], b[i], carry)
	}
	return sum
}

// subLong is a - b, where b is known not to be above a.
func subLong(a, b api.Long) api.Long {
	var rest api.Long
	var borrow uint64
	for i := range rest {
		rest[i], borrow = bits.Sub64(a[i], b[i], borrow)
	}
	return rest
}

// cmpLong is -1, 0 or 1: a is below, equal to, above b.
func cmpLong(a, b api.Long) int {
	high := wide.Cmp(api.Wide{Hi: a[3], Lo: a[2]}, api.Wide{Hi: b[3], Lo: b[2]})
	if high != 0 {
		return high
	}
	return wide.Cmp(low(a), low(b))
}

// push is 10 n + 1, where that is known to be a Long.
func push(n api.Long) api.Long {
	two := addLong(n, n)
	four := addLong(two, two)
	return addLong(addLong(addLong(four, four), two), api.Long{1})
}
