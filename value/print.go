package value

import (
	"strconv"

	"tariff/api"
	"tariff/chars"
	"tariff/date"
	"tariff/dec"
)

// Print: its text.
func Print(v api.Value) (string, api.Errno) {
	if e := Check(v); e != api.OK {
		return "", e
	}
	return string(appendText(nil, v)), api.OK
}

// appendText puts the text of a value in form behind a text.
func appendText(text []byte, v api.Value) []byte {
	switch v.Kind {
	case api.Bool:
		return strconv.AppendBool(text, v.Yes)
	case api.Num:
		digits, _ := dec.Print(v.Num)
		return append(text, digits...)
	case api.Text:
		return appendQuoted(text, v.Text)
	case api.Date:
		day, _ := date.Print(v.Day)
		return appendQuoted(append(text, '@'), day)
	case api.List:
		text = append(text, '[')
		return append(appendParts(text, v), ']')
	case api.Ctx:
		text = append(text, '{')
		return append(appendParts(text, v), '}')
	}
	return append(text, "null"...)
}

// appendParts puts the values of a list, or the entries of a context, behind a text.
func appendParts(text []byte, v api.Value) []byte {
	for i, part := range v.List {
		if i > 0 {
			text = append(text, ", "...)
		}
		if v.Kind == api.Ctx {
			text = append(text, v.Names[i]...)
			text = append(text, ": "...)
		}
		text = appendText(text, part)
	}
	return text
}

// appendQuoted puts a text in quotes behind another.
func appendQuoted(text []byte, s string) []byte {
	quoted, _ := chars.Quote(s)
	return append(text, quoted...)
}
