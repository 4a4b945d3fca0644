package chars

import (
	"strings"
	"unicode/utf8"

	"tariff/api"
)

// Escape: as it stands in a document; attr: in an attribute.
func Escape(s string, attr bool) (string, api.Errno) {
	if !Valid(s) {
		return "", api.ErrForm
	}
	var text []byte
	for i := 0; i < len(s); i++ {
		if ref := reference(s[i], attr); ref != "" {
			text = append(text, ref...)
		} else {
			text = append(text, s[i])
		}
	}
	return string(text), api.OK
}

// Unescape: what stands in a document, as a text.
func Unescape(s string, attr bool) (string, api.Errno) {
	if !Valid(s) {
		return "", api.ErrForm
	}
	return unescape(s, attr)
}

// unescape is Unescape of a text.
func unescape(s string, attr bool) (string, api.Errno) {
	var text []byte
	var c byte
	var base, code, digit, size int
	at := 0
plain:
	if at == len(s) {
		return string(text), api.OK
	}
	c = s[at]
	at++
	switch c {
	case '<':
		goto wrong
	case '&':
		goto ampersand
	case '\r':
		goto lineEnd
	}
	text = append(text, blank(c, attr))
	goto plain
lineEnd:
	// The A after a D stands for both.
	if at == len(s) || s[at] != '\n' {
		text = append(text, blank('\n', attr))
	}
	goto plain
ampersand:
	base, code = 10, 0
	if strings.HasPrefix(s[at:], "#x") {
		base = 16
		at += len("#x")
		goto number
	}
	if strings.HasPrefix(s[at:], "#") {
		at += len("#")
		goto number
	}
	c, size = named(s[at:])
	if size == 0 {
		goto wrong
	}
	text = append(text, c)
	at += size
	goto plain
number:
	if at == len(s) {
		goto wrong
	}
	digit = digitOf(s[at])
	if digit >= base {
		goto numberEnd
	}
	// Any number of digits may stand there: what is too great stays so, and is no character.
	code = min(code*base+digit, utf8.MaxRune+1)
	at++
	goto number
numberEnd:
	// Without a digit the number is 0, which is no character either.
	if s[at] != ';' || !allowed(rune(code)) {
		goto wrong
	}
	text = utf8.AppendRune(text, rune(code))
	at++
	goto plain
wrong:
	return "", api.ErrText
}

// reference is what Escape puts in place of a byte; "" if the byte stays.
func reference(c byte, attr bool) string {
	switch c {
	case '&':
		return "&amp;"
	case '<':
		return "&lt;"
	case '>':
		return "&gt;"
	case '\r':
		return "&#13;"
	}
	if !attr {
		return ""
	}
	switch c {
	case '"':
		return "&quot;"
	case '\t':
		return "&#9;"
	case '\n':
		return "&#10;"
	}
	return ""
}

// named is the character of the named reference whose name s begins with, and the
// bytes of that name and its semicolon; 0 bytes if there is none.
func named(s string) (byte, int) {
	switch {
	case strings.HasPrefix(s, "lt;"):
		return '<', len("lt;")
	case strings.HasPrefix(s, "gt;"):
		return '>', len("gt;")
	case strings.HasPrefix(s, "amp;"):
		return '&', len("amp;")
	case strings.HasPrefix(s, "quot;"):
		return '"', len("quot;")
	case strings.HasPrefix(s, "apos;"):
		return '\'', len("apos;")
	}
	return 0, 0
}

// blank is a byte as it is read: in an attribute a tab and a line's end are blanks.
func blank(c byte, attr bool) byte {
	if attr && (c == '\t' || c == '\n') {
		return ' '
	}
	return c
}

// digitOf is what a digit of base 16 counts; 16 if it is none.
func digitOf(c byte) int {
	switch {
	case c >= '0' && c <= '9':
		return int(c - '0')
	case c >= 'a' && c <= 'f':
		return int(c-'a') + 10
	case c >= 'A' && c <= 'F':
		return int(c-'A') + 10
	}
	return 16
}
