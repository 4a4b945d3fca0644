package wide

import (
	"math/bits"

	"tariff/api"
)

// Div: the whole part of n / d, and what is left.
func Div(n api.Long, d api.Wide) (api.Long, api.Wide, api.Errno) {
	if d == (api.Wide{}) {
		return api.Long{}, api.Wide{}, api.ErrZero
	}
	if d.Hi == 0 {
		q, rest := divWord(n, d.Lo)
		return q, api.Wide{Lo: rest}, api.OK
	}
	q, rest := divPair(n, d)
	return q, rest, api.OK
}

// Round: n / 10^k, to the nearest, ties to even.
func Round(n api.Long, k int) (api.Wide, api.Errno) {
	if k < 0 || k > maxRound {
		return api.Wide{}, api.ErrArg
	}
	// 10^k may be no Wide, so n is divided by two powers whose product it is.
	first := min(k, maxTen)
	low, high := power(first), power(k-first)
	q, lowRest, _ := Div(n, low)
	q, highRest, _ := Div(q, high)
	rest := addLong(Mul(highRest, low), long(lowRest))
	side := cmpLong(addLong(rest, rest), Mul(low, high))
	if side > 0 || side == 0 && q[0]%2 == 1 {
		q = addLong(q, api.Long{1})
	}
	return Narrow(q)
}

// divWord divides by one word, which is not 0.
func divWord(n api.Long, d uint64) (api.Long, uint64) {
	var q api.Long
	var rest uint64
	for i := len(n) - 1; i >= 0; i-- {
		q[i], rest = bits.Div64(rest, n[i], d)
	}
	return q, rest
}

// divPair divides by two words, the higher of which is not 0: both numbers are
// shifted until the divisor's highest bit is set, since only then is an estimate
// from its higher word nearly right.
func divPair(n api.Long, d api.Wide) (api.Long, api.Wide) {
	up := uint(bits.LeadingZeros64(d.Hi))
	down := 64 - up
	d = api.Wide{Hi: d.Hi<<up | d.Lo>>down, Lo: d.Lo << up}
	rest := api.Wide{Hi: n[3] >> down, Lo: n[3]<<up | n[2]>>down}
	var q api.Long
	q[2], rest = divThree(rest, n[2]<<up|n[1]>>down, d)
	q[1], rest = divThree(rest, n[1]<<up|n[0]>>down, d)
	q[0], rest = divThree(rest, n[0]<<up, d)
	return q, api.Wide{Hi: rest.Hi >> up, Lo: rest.Lo>>up | rest.Hi<<down}
}

// divThree divides the three words of top and low by d, where top < d and the
// highest bit of d is set.
func divThree(top api.Wide, low uint64, d api.Wide) (uint64, api.Wide) {
	q := ^uint64(0)
	if top.Hi < d.Hi {
		q, _ = bits.Div64(top.Hi, top.Lo, d.Hi)
	}
	n := api.Long{low, top.Lo, top.Hi, 0}
	product := Mul(d, api.Wide{Lo: q})
	// The estimate is never too small, and too great by 2 at most.
	for cmpLong(product, n) > 0 {
		q--
		product = Mul(d, api.Wide{Lo: q})
	}
	// The rest is below d, so the two lower words are all of it.
	rest, _ := less(api.Wide{Hi: n[1], Lo: n[0]}, api.Wide{Hi: product[1], Lo: product[0]})
	return q, rest
}
