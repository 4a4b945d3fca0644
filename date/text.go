package date

import (
	"strconv"
	"strings"

	"tariff/api"
)

// Parse: the day of a text.
func Parse(s string) (int, api.Errno) {
	if !isDate(s) {
		return 0, api.ErrText
	}
	day, e := Day(number(s[:4]), number(s[5:7]), number(s[8:]))
	if e != api.OK {
		return 0, api.ErrFar
	}
	return day, api.OK
}

// Print: its text.
func Print(day int) (string, api.Errno) {
	year, month, dayOfMonth, e := Split(day)
	if e != api.OK {
		return "", e
	}
	return digits(year, 4) + "-" + digits(month, 2) + "-" + digits(dayOfMonth, 2), api.OK
}

// isDate tells whether s has a date's syntax.
func isDate(s string) bool {
	if len(s) != 10 {
		return false
	}
	for i := 0; i < len(s); i++ {
		if i == 4 || i == 7 {
			if s[i] != '-' {
				return false
			}
		} else if s[i] < '0' || s[i] > '9' {
			return false
		}
	}
	return true
}

// number is what some decimal digits say.
func number(s string) int {
	n := 0
	for i := 0; i < len(s); i++ {
		n = n*10 + int(s[i]-'0')
	}
	return n
}

// digits is a number with zeros ahead of it, as wide as asked.
func digits(n, width int) string {
	s := strconv.Itoa(n)
	return strings.Repeat("0", width-len(s)) + s
}
