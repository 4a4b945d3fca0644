package lex

import (
	"strings"

	"tariff/api"
	"tariff/chars"
	"tariff/date"
	"tariff/dec"
)

// reader is a text that is being divided: it has been read up to at.
type reader struct {
	text  string
	at    int
	begin int // where the token begins that is being read
	list  []api.Token
	over  bool // whether there was a number that no decimal equals
	far   bool // whether there was a date that no day has
}

// tokens divides the text up to its end; false if it can't be divided.
func (r *reader) tokens() bool {
between:
	r.begin = r.at
	switch c := r.peek(0); {
	case c == 0:
		return true
	case isBlank(c):
		r.at++
		goto between
	case isDigit(c):
		goto whole
	case isLetter(c):
		goto name
	case c == '@':
		r.at++
		goto opening
	case c == '"':
		goto opening
	}
	if !r.sign() {
		return false
	}
	goto between
whole:
	r.at++
	switch {
	case isDigit(r.peek(0)):
		goto whole
	case r.peek(0) == '.' && isDigit(r.peek(1)):
		goto fraction
	}
	goto number
fraction:
	r.at++
	if isDigit(r.peek(0)) {
		goto fraction
	}
number:
	if !r.number() {
		return false
	}
	goto between
name:
	r.at++
	if c := r.peek(0); isLetter(c) || isDigit(c) {
		goto name
	}
	if !r.name() {
		return false
	}
	goto between
opening:
	if r.peek(0) != '"' || !r.quotation() {
		return false
	}
	goto between
}

// quotation reads a text in quotes, and tells it, or the date that it is; false if it is none.
func (r *reader) quotation() bool {
	open := r.at
quoted:
	r.at++
	switch r.peek(0) {
	case 0:
		return false
	case '\\':
		goto escaped
	case '"':
		goto closing
	}
	goto quoted
escaped:
	r.at++
	goto quoted
closing:
	r.at++
	text, e := chars.Unquote(r.text[open:r.at])
	if e != api.OK {
		return false
	}
	if r.text[r.begin] == '@' {
		return r.date(text)
	}
	r.tell(api.Token{Kind: api.TStr, Text: text})
	return true
}

// date tells the date that a text is; false if it isn't written like one.
func (r *reader) date(text string) bool {
	day, e := date.Parse(text)
	r.far = r.far || e == api.ErrFar
	r.tell(api.Token{Kind: api.TDate, Day: day})
	return e != api.ErrText
}

// number tells the number that has been read; false if it isn't written like one.
func (r *reader) number() bool {
	n, e := dec.Parse(r.text[r.begin:r.at])
	r.over = r.over || e == api.ErrOver
	r.tell(api.Token{Kind: api.TNum, Num: n})
	return e != api.ErrText
}

// name tells the name or keyword that has been read; false if it is too long.
func (r *reader) name() bool {
	text := strings.Clone(r.text[r.begin:r.at])
	kind := api.TName
	if chars.Word(text) {
		kind = api.TWord
	}
	r.tell(api.Token{Kind: kind, Text: text})
	return len(text) <= api.MaxName
}

// sign reads the longest symbol that stands next, and tells it; false if there is none.
func (r *reader) sign() bool {
	text := symbol(r.text[r.at:])
	r.at += len(text)
	r.tell(api.Token{Kind: api.TSign, Text: strings.Clone(text)})
	return text != ""
}

// tell puts a token that has been read behind the others.
func (r *reader) tell(t api.Token) {
	t.At = r.begin
	r.list = append(r.list, t)
}

// peek is the byte so far ahead; 0, which no text contains, behind the end.
func (r *reader) peek(n int) byte {
	if r.at+n < len(r.text) {
		return r.text[r.at+n]
	}
	return 0
}

// symbol is the longest symbol that a text begins with; empty if there is none.
func symbol(s string) string {
	for n := min(2, len(s)); n > 0; n-- {
		switch s[:n] {
		case "..", "!=", "<=", ">=":
			return s[:n]
		case "(", ")", "[", "]", "{", "}", ",", ":", ".", "+", "-", "*", "/", "=", "<", ">":
			return s[:n]
		}
	}
	return ""
}

// isBlank tells whether a byte may stand between tokens.
func isBlank(c byte) bool {
	return c == ' ' || c == '\t' || c == '\n' || c == '\r'
}

// isDigit tells whether a byte is a decimal digit.
func isDigit(c byte) bool {
	return c >= '0' && c <= '9'
}

// isLetter tells whether a byte is a letter of a name.
func isLetter(c byte) bool {
	return c >= 'a' && c <= 'z' || c >= 'A' && c <= 'Z' || c == '_'
}
