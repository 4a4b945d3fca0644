package wide

import (
	"strconv"
	"strings"

	"tariff/api"
)

// Read: the number of a text.
func Read(s string) (api.Wide, api.Errno) {
	if !isNumber(s) {
		return api.Wide{}, api.ErrText
	}
	if len(s) > maxTen+1 {
		return api.Wide{}, api.ErrOver
	}
	var w api.Wide
	for i := 0; i < len(s); i++ {
		n := addLong(Mul(w, api.Wide{Lo: 10}), api.Long{uint64(s[i] - '0')})
		next, e := Narrow(n)
		if e != api.OK {
			return api.Wide{}, e
		}
		w = next
	}
	return w, api.OK
}

// Text: its decimal digits.
func Text(a api.Wide) string {
	tail := ""
	for a.Hi != 0 {
		q, rest := divWord(long(a), tens[wordTen])
		digits := strconv.FormatUint(rest, 10)
		tail = strings.Repeat("0", wordTen-len(digits)) + digits + tail
		a = api.Wide{Hi: q[1], Lo: q[0]}
	}
	return strconv.FormatUint(a.Lo, 10) + tail
}

// isNumber tells whether s is one or more digits, without a leading zero.
func isNumber(s string) bool {
	if s == "" || len(s) > 1 && s[0] == '0' {
		return false
	}
	for i := 0; i < len(s); i++ {
		if s[i] < '0' || s[i] > '9' {
			return false
		}
	}
	return true
}
