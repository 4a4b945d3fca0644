package dec

import (
	"strings"

	"tariff/api"
	"tariff/wide"
)

// Parse: the decimal of a text.
func Parse(s string) (api.Dec, api.Errno) {
	body, neg := strings.CutPrefix(s, "-")
	before, after, point := strings.Cut(body, ".")
	if !isDigits(before) || len(before) > 1 && before[0] == '0' {
		return api.Dec{}, api.ErrText
	}
	if point && !isDigits(after) {
		return api.Dec{}, api.ErrText
	}
	after = strings.TrimRight(after, "0")
	digits := strings.TrimLeft(before+after, "0")
	if digits == "" {
		if neg {
			return api.Dec{}, api.ErrText
		}
		return api.Dec{}, api.OK
	}
	if len(after) > api.MaxScale || len(digits) > api.MaxDigits {
		return api.Dec{}, api.ErrOver
	}
	coef, _ := wide.Read(digits)
	return api.Dec{Neg: neg, Coef: coef, Scale: len(after)}, api.OK
}

// Print: its text.
func Print(d api.Dec) (string, api.Errno) {
	if !Form(d) {
		return "", api.ErrForm
	}
	digits := wide.Text(d.Coef)
	if len(digits) <= d.Scale {
		digits = strings.Repeat("0", d.Scale+1-len(digits)) + digits
	}
	sign := ""
	if d.Neg {
		sign = "-"
	}
	at := len(digits) - d.Scale
	if d.Scale == 0 {
		return sign + digits, api.OK
	}
	return sign + digits[:at] + "." + digits[at:], api.OK
}

// isDigits tells whether s is one or more digits.
func isDigits(s string) bool {
	for i := 0; i < len(s); i++ {
		if s[i] < '0' || s[i] > '9' {
			return false
		}
	}
	return s != ""
}
