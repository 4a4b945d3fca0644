package chars

import "tariff/api"

// Quote: as it stands in an expression.
func Quote(s string) (string, api.Errno) {
	if !Valid(s) {
		return "", api.ErrForm
	}
	text := []byte{'"'}
	for i := 0; i < len(s); i++ {
		if c := sign(s[i]); c != 0 {
			text = append(text, '\\', c)
		} else {
			text = append(text, s[i])
		}
	}
	return string(append(text, '"')), api.OK
}

// Unquote: what stands in an expression, as a text.
func Unquote(s string) (string, api.Errno) {
	if !Valid(s) {
		return "", api.ErrForm
	}
	return unquote(s)
}

// unquote is Unquote of a text.
func unquote(s string) (string, api.Errno) {
	var text []byte
	var c byte
	at := 1
	if len(s) < 2 || s[0] != '"' {
		goto wrong
	}
quoted:
	if at == len(s) {
		goto wrong
	}
	c = s[at]
	at++
	switch {
	case c == '"':
		goto end
	case c == '\\':
		goto escaped
	case sign(c) != 0:
		goto wrong
	}
	text = append(text, c)
	goto quoted
escaped:
	if at == len(s) {
		goto wrong
	}
	c = meaning(s[at])
	at++
	if c == 0 {
		goto wrong
	}
	text = append(text, c)
	goto quoted
end:
	// The first quote that is not escaped must be the last byte.
	if at == len(s) {
		return string(text), api.OK
	}
wrong:
	return "", api.ErrText
}

// sign is what stands after a \ for a byte that does not stand for itself between
// quotes; 0 if it does.
func sign(c byte) byte {
	switch c {
	case '"', '\\':
		return c
	case '\n':
		return 'n'
	case '\r':
		return 'r'
	case '\t':
		return 't'
	}
	return 0
}

// meaning is the byte that a sign after a \ stands for; 0 if it is no such sign.
func meaning(c byte) byte {
	switch c {
	case '"', '\\':
		return c
	case 'n':
		return '\n'
	case 'r':
		return '\r'
	case 't':
		return '\t'
	}
	return 0
}
