package lex

import (
	"fmt"
	"reflect"
	"regexp"
	"strings"
	"testing"
	"time"

	"tariff/api"
	"tariff/chars"
	"tariff/dec"
)

// What the chapter says, worked out by patterns, token by token.

var (
	blankPattern  = regexp.MustCompile(`^[\x20\x09\x0a\x0d]*`)
	numberPattern = regexp.MustCompile(`^[0-9]+(?:\.[0-9]+)?`)
	stringPattern = regexp.MustCompile(`^"(?s:[^"\\]|\\.)*"`)
	letterPattern = regexp.MustCompile(`^[A-Za-z_][A-Za-z0-9_]*`)
	doublePattern = regexp.MustCompile(`^(?:\.\.|!=|<=|>=)`)
	singlePattern = regexp.MustCompile(`^[()\[\]{},:.+\-*/=<>]`)
	writtenNumber = regexp.MustCompile(`^(?:0|[1-9][0-9]*)(?:\.[0-9]+)?$`)
	writtenString = regexp.MustCompile(`^"(?:[^"\\\n\r\t]|\\["\\nrt])*"$`)
	writtenDate   = regexp.MustCompile(`^[0-9]{4}-[0-9]{2}-[0-9]{2}$`)
	keywords      = map[string]bool{"and": true, "between": true, "else": true, "false": true, "if": true, "in": true, "not": true, "null": true, "or": true, "then": true, "true": true}
	meanings      = strings.NewReplacer(`\"`, `"`, `\\`, `\`, `\n`, "\n", `\r`, "\r", `\t`, "\t")
	firstDay      = time.Date(1, 1, 1, 0, 0, 0, 0, time.UTC)
)

// wantRead is Read.
func wantRead(s string) ([]api.Token, api.Errno) {
	if len(s) > 1000 {
		return nil, api.ErrLong
	}
	if !chars.Valid(s) {
		return nil, api.ErrForm
	}
	var list []api.Token
	seen := map[api.Errno]bool{}
	for at := len(blankPattern.FindString(s)); at < len(s); {
		piece, token, e := wantToken(s[at:])
		seen[e] = true
		if e == api.ErrText {
			break
		}
		token.At = at
		list = append(list, token)
		at += len(piece)
		at += len(blankPattern.FindString(s[at:]))
	}
	for _, e := range []api.Errno{api.ErrText, api.ErrOver, api.ErrFar} {
		if seen[e] {
			return nil, e
		}
	}
	return list, api.OK
}

// wantToken is the token that s begins with, and the bytes that it consists of.
func wantToken(s string) (string, api.Token, api.Errno) {
	if m := numberPattern.FindString(s); m != "" {
		if !writtenNumber.MatchString(m) {
			return "", api.Token{}, api.ErrText
		}
		n, e := dec.Parse(m)
		return m, api.Token{Kind: 1, Num: n}, e
	}
	if m := stringPattern.FindString(s); writtenString.MatchString(m) {
		return m, api.Token{Kind: 2, Text: meanings.Replace(m[1 : len(m)-1])}, api.OK
	}
	if s[0] == '@' {
		m := stringPattern.FindString(s[1:])
		if m == "" || !writtenDate.MatchString(m[1:len(m)-1]) {
			return "", api.Token{}, api.ErrText
		}
		day, err := time.Parse("2006-01-02", m[1:len(m)-1])
		if err != nil || day.Year() == 0 {
			return "@" + m, api.Token{}, api.ErrFar
		}
		return "@" + m, api.Token{Kind: 3, Day: 1 + int((day.Unix()-firstDay.Unix())/86400)}, api.OK
	}
	if m := letterPattern.FindString(s); m != "" {
		switch {
		case len(m) > 64:
			return "", api.Token{}, api.ErrText
		case keywords[m]:
			return m, api.Token{Kind: 5, Text: m}, api.OK
		}
		return m, api.Token{Kind: 4, Text: m}, api.OK
	}
	if m := doublePattern.FindString(s); m != "" {
		return m, api.Token{Kind: 6, Text: m}, api.OK
	}
	if m := singlePattern.FindString(s); m != "" {
		return m, api.Token{Kind: 6, Text: m}, api.OK
	}
	return "", api.Token{}, api.ErrText
}

// hold holds what Read answers against what is wanted, and tells the error that is wanted.
func hold(t *testing.T, s string) api.Errno {
	t.Helper()
	want, wantErr := wantRead(s)
	got, e := Read(s)
	if e != wantErr || !same(got, want) {
		t.Errorf("Read(%.300q): %.500s %v, want %.500s %v", s, fmt.Sprint(got), e, fmt.Sprint(want), wantErr)
	}
	return wantErr
}

// same tells whether two lists are the same: nil and empty ones are.
func same(a, b []api.Token) bool {
	return len(a) == 0 && len(b) == 0 || reflect.DeepEqual(a, b)
}

// source makes numbers, the same ones in every test run.
type source struct{ state uint64 }

func (s *source) below(n int) int {
	s.state = s.state*6364136223846793005 + 1442695040888963407
	x := s.state
	x ^= x >> 33
	x *= 0xff51afd7ed558ccd
	return int((x ^ x>>29) >> 1 % uint64(n))
}

// words hands every string of at most so many of the pieces to a check.
func words(pieces []string, most int, check func(s string)) {
	check("")
	if most == 0 {
		return
	}
	for _, p := range pieces {
		words(pieces, most-1, func(s string) { check(p + s) })
	}
}
