package chars

import "tariff/api"

// Name: is it a name?
func Name(s string) bool {
	if s == "" || len(s) > api.MaxName || Word(s) || isDigit(s[0]) {
		return false
	}
	for i := 0; i < len(s); i++ {
		if !isLetter(s[i]) && !isDigit(s[i]) {
			return false
		}
	}
	return true
}

// Word: is it a keyword?
func Word(s string) bool {
	switch s {
	case "and", "between", "else", "false", "if", "in", "not", "null", "or", "then", "true":
		return true
	}
	return false
}

// isLetter tells whether a byte is a letter of a name.
func isLetter(c byte) bool {
	return c >= 'a' && c <= 'z' || c >= 'A' && c <= 'Z' || c == '_'
}

// isDigit tells whether a byte is a decimal digit.
func isDigit(c byte) bool {
	return c >= '0' && c <= '9'
}
