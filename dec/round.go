package dec

import (
	"tariff/api"
	"tariff/wide"
)

// Floor: the greatest whole number at most a.
func Floor(a api.Dec) (api.Dec, api.Errno) {
	if !Form(a) {
		return api.Dec{}, api.ErrForm
	}
	return whole(a, a.Neg), api.OK
}

// Ceil: the least whole number at least a.
func Ceil(a api.Dec) (api.Dec, api.Errno) {
	if !Form(a) {
		return api.Dec{}, api.ErrForm
	}
	return whole(a, !a.Neg), api.OK
}

// Round: a to n digits behind the point, ties to even.
func Round(a api.Dec, n int) (api.Dec, api.Errno) {
	if n < 0 || n > api.MaxScale {
		return api.Dec{}, api.ErrArg
	}
	if !Form(a) {
		return api.Dec{}, api.ErrForm
	}
	if n >= a.Scale {
		return a, api.OK
	}
	coef, _ := wide.Round(long(a.Coef), a.Scale-n)
	return settle(a.Neg, coef, n), api.OK
}

// Next: the least decimal above a.
func Next(a api.Dec) (api.Dec, api.Errno) {
	if !Form(a) {
		return api.Dec{}, api.ErrForm
	}
	return neighbour(a, !a.Neg)
}

// Prev: the greatest decimal below a.
func Prev(a api.Dec) (api.Dec, api.Errno) {
	if !Form(a) {
		return api.Dec{}, api.ErrForm
	}
	if isZero(a) {
		a.Neg = true // the decimals below 0 are those beyond it on the other side
	}
	return neighbour(a, a.Neg)
}

// whole is a without its fraction; with away, a fraction takes it one farther
// from 0.
func whole(a api.Dec, away bool) api.Dec {
	q, rest := split(long(a.Coef), a.Scale)
	if away && rest != (api.Wide{}) {
		q = addLong(q, api.Long{1})
	}
	return settle(a.Neg, low(q), 0)
}

// neighbour is the decimal beside a on the side of its sign: with away the one
// farther from 0, else the one nearer to 0, where a is not 0.
func neighbour(a api.Dec, away bool) (api.Dec, api.Errno) {
	n := raised(a, api.MaxScale)
	// Every multiple of a coarser unit is one of a finer unit too, so the first
	// unit that has room for a neighbour has the nearest.
	for s := api.MaxScale; s >= 0; s-- {
		q, rest := split(n, api.MaxScale-s)
		if away {
			q = addLong(q, api.Long{1})
		} else if rest == (api.Wide{}) {
			q = subLong(q, api.Long{1})
		}
		coef, e := wide.Narrow(q)
		if e == api.OK && fits(coef) {
			return settle(a.Neg, coef, s), api.OK
		}
	}
	return api.Dec{}, api.ErrOver
}
