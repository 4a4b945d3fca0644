package dsl

import "strings"

// blanks are the bytes that may stand around what a line consists of.
const blanks = " \t\r"

func trim(s string) string {
	return strings.Trim(s, blanks)
}

func isBlank(r rune) bool {
	return strings.ContainsRune(blanks, r)
}

// find is the place of the first sign in a line that stands outside of quotes; negative if there
// is none.
func find(line, sign string) int {
	at := 0
	// A quote is itself part of what is quoted.
	if strings.Contains(sign, `"`) {
		return -1
	}
outside:
	switch {
	case at == len(line):
		return -1
	case line[at] == '"':
		goto quoted
	case strings.HasPrefix(line[at:], sign):
		return at
	}
	at++
	goto outside
quoted:
	at++
	switch {
	case at == len(line):
		return -1
	case line[at] == '\\':
		goto escaped
	case line[at] == '"':
		goto closed
	}
	goto quoted
escaped:
	at++
	if at == len(line) {
		return -1
	}
	goto quoted
closed:
	at++
	goto outside
}

// cut is what stands before and after the first sign outside of quotes in a line without blanks
// at its ends; false if there is none, and then all of it is before.
func cut(line, sign string) (before, after string, ok bool) {
	at := find(line, sign)
	if at < 0 {
		return line, "", false
	}
	return trim(line[:at]), trim(line[at+len(sign):]), true
}

// split is the pieces between the signs outside of quotes, without copying them.
func split(s, sign string) []string {
	if sign == "" {
		return []string{trim(s)}
	}
	var list []string
	// What follows a sign begins outside of quotes, as the sign does.
	for at := find(s, sign); at >= 0; at = find(s, sign) {
		list = append(list, trim(s[:at]))
		s = s[at+len(sign):]
	}
	return append(list, trim(s))
}
