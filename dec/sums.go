package dec

import (
	"tariff/api"
	"tariff/wide"
)

// divScale is the scale of the quotients that Div fits: one digit more than a
// decimal has tells the ties.
const divScale = api.MaxScale + 1

// Add: a + b.
func Add(a, b api.Dec) (api.Dec, api.Errno) {
	if !Form(a) || !Form(b) {
		return api.Dec{}, api.ErrForm
	}
	scale := max(a.Scale, b.Scale)
	x, y := raised(a, scale), raised(b, scale)
	if a.Neg == b.Neg {
		return fit(a.Neg, addLong(x, y), scale)
	}
	if cmpLong(x, y) < 0 {
		return fit(b.Neg, subLong(y, x), scale)
	}
	return fit(a.Neg, subLong(x, y), scale)
}

// Sub: a - b.
func Sub(a, b api.Dec) (api.Dec, api.Errno) {
	if !Form(a) || !Form(b) {
		return api.Dec{}, api.ErrForm
	}
	return Add(a, negated(b))
}

// Mul: a * b.
func Mul(a, b api.Dec) (api.Dec, api.Errno) {
	if !Form(a) || !Form(b) {
		return api.Dec{}, api.ErrForm
	}
	return fit(a.Neg != b.Neg, wide.Mul(a.Coef, b.Coef), a.Scale+b.Scale)
}

// Div: a / b.
func Div(a, b api.Dec) (api.Dec, api.Errno) {
	if !Form(a) || !Form(b) {
		return api.Dec{}, api.ErrForm
	}
	if isZero(b) {
		return api.Dec{}, api.ErrZero
	}
	q, rest, _ := wide.Div(raised(a, divScale+b.Scale), b.Coef)
	scale := divScale
	if rest != (api.Wide{}) {
		// One more digit stands for all that is left: it keeps a quotient that
		// is a little above a tie from being taken for the tie.
		q = push(q)
		scale++
	}
	return fit(a.Neg != b.Neg, q, scale)
}

// Mod: a less b times the floor of a / b.
func Mod(a, b api.Dec) (api.Dec, api.Errno) {
	if !Form(a) || !Form(b) {
		return api.Dec{}, api.ErrForm
	}
	if isZero(b) {
		return api.Dec{}, api.ErrZero
	}
	scale := max(a.Scale, b.Scale)
	x, y := raised(a, scale), raised(b, scale)
	rest := remainder(x, y)
	if a.Neg != b.Neg && rest != (api.Long{}) {
		rest = subLong(y, rest)
	}
	return fit(b.Neg, rest, scale)
}

// remainder is what x / y leaves, where one of the two at least is below
// 10^MaxDigits, and y is not 0.
func remainder(x, y api.Long) api.Long {
	d, e := wide.Narrow(y)
	if e != api.OK {
		return x // y is 2^128 or more, so x is the lesser
	}
	_, rest, _ := wide.Div(x, d)
	return long(rest)
}
