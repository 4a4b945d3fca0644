// Package dec is layer 2: exact bounded decimals: see shared/doc/02-dec.md.
package dec

import (
	"math"

	"tariff/api"
	"tariff/wide"
)

// maxMake is the greatest scale that Make takes.
const maxMake = 60

// Form: is it in form?
func Form(d api.Dec) bool {
	if d.Scale < 0 || d.Scale > api.MaxScale || !fits(d.Coef) {
		return false
	}
	if d.Scale == 0 {
		return !d.Neg || !isZero(d)
	}
	_, last := split(long(d.Coef), 1)
	return last != (api.Wide{})
}

// Make: coef / 10^scale, or its negative, fitted.
func Make(neg bool, coef api.Wide, scale int) (api.Dec, api.Errno) {
	if scale < 0 || scale > maxMake {
		return api.Dec{}, api.ErrArg
	}
	return fit(neg, long(coef), scale)
}

// Of: a plain number.
func Of(n int) api.Dec {
	size := uint64(n)
	if n < 0 {
		size = -size
	}
	return api.Dec{Neg: n < 0, Coef: api.Wide{Lo: size}}
}

// Int: the plain number that it is.
func Int(d api.Dec) (int, api.Errno) {
	if !Form(d) {
		return 0, api.ErrForm
	}
	if d.Scale > 0 {
		return 0, api.ErrType
	}
	most := uint64(math.MaxInt)
	if d.Neg {
		most++ // the least int is one farther from 0 than the greatest
	}
	if wide.Cmp(d.Coef, api.Wide{Lo: most}) > 0 {
		return 0, api.ErrOver
	}
	if d.Neg {
		return int(-d.Coef.Lo), api.OK
	}
	return int(d.Coef.Lo), api.OK
}

// Cmp: -1, 0, 1: a is below, equal to, above b.
func Cmp(a, b api.Dec) (int, api.Errno) {
	if !Form(a) || !Form(b) {
		return 0, api.ErrForm
	}
	if a.Neg != b.Neg {
		if a.Neg {
			return -1, api.OK
		}
		return 1, api.OK
	}
	side := cmpLong(raised(a, api.MaxScale), raised(b, api.MaxScale))
	if a.Neg {
		side = -side
	}
	return side, api.OK
}

// Neg: -a.
func Neg(a api.Dec) (api.Dec, api.Errno) {
	if !Form(a) {
		return api.Dec{}, api.ErrForm
	}
	return negated(a), api.OK
}

// Abs: its size.
func Abs(a api.Dec) (api.Dec, api.Errno) {
	if !Form(a) {
		return api.Dec{}, api.ErrForm
	}
	a.Neg = false
	return a, api.OK
}

// negated is -a, for a in form.
func negated(a api.Dec) api.Dec {
	a.Neg = !a.Neg && !isZero(a)
	return a
}

// isZero tells whether the coefficient is 0.
func isZero(d api.Dec) bool {
	return d.Coef == api.Wide{}
}
