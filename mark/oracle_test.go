package mark

import (
	"fmt"
	"reflect"
	"regexp"
	"strings"
	"testing"

	"tariff/api"
	"tariff/chars"
)

// What the chapter says, worked out by patterns, piece by piece.

const (
	namePart    = `[A-Za-z_][A-Za-z0-9_.\-]{0,63}`
	blankPart   = `[\x20\x09\x0a\x0d]`
	valuePart   = `"[^"<]*"|'[^'<]*'`
	attrPart    = blankPart + `+(` + namePart + `)` + blankPart + `*=` + blankPart + `*(` + valuePart + `)`
	openPart    = `^<(` + namePart + `)((?:` + attrPart + `)*)` + blankPart + `*(/?)>`
	closePart   = `^</(` + namePart + `)` + blankPart + `*>`
	commentPart = `^<!--(?:[^\-]|-[^\-])*-->`
	headPart    = `^<\?xml` + blankPart + `(?s:.*?)\?>`
)

var (
	namePattern    = regexp.MustCompile(`^(?:` + namePart + `)$`)
	attrPattern    = regexp.MustCompile(attrPart)
	openPattern    = regexp.MustCompile(openPart)
	closePattern   = regexp.MustCompile(closePart)
	commentPattern = regexp.MustCompile(commentPart)
	headPattern    = regexp.MustCompile(headPart)
	dataPattern    = regexp.MustCompile(`^[^<]+`)
)

// wantRead is Read.
func wantRead(b string) ([]api.Event, api.Errno) {
	if len(b) > 300000 {
		return nil, api.ErrLong
	}
	if !chars.Valid(b) {
		return nil, api.ErrForm
	}
	var list []api.Event
	b = b[len(headPattern.FindString(b)):]
	for b != "" {
		events, size := wantPiece(b)
		if size == 0 {
			return nil, api.ErrText
		}
		list = append(list, events...)
		b = b[size:]
	}
	for _, e := range list {
		if len(e.Attrs) > 16 {
			return nil, api.ErrLong
		}
	}
	for _, e := range list {
		names := map[string]bool{}
		for _, a := range e.Attrs {
			names[a.Name] = true
		}
		if len(names) < len(e.Attrs) {
			return nil, api.ErrTwice
		}
	}
	return list, api.OK
}

// wantPiece is the events of the piece that b begins with, and its bytes; 0 bytes if there is none.
func wantPiece(b string) ([]api.Event, int) {
	if m := dataPattern.FindString(b); m != "" {
		text, e := chars.Unescape(m, false)
		if e != api.OK {
			return nil, 0
		}
		return []api.Event{{Kind: api.Data, Text: text}}, len(m)
	}
	if m := commentPattern.FindString(b); m != "" {
		return nil, len(m)
	}
	if m := closePattern.FindStringSubmatch(b); m != nil {
		return []api.Event{{Kind: api.Close, Name: m[1]}}, len(m[0])
	}
	m := openPattern.FindStringSubmatch(b)
	if m == nil {
		return nil, 0
	}
	open := api.Event{Kind: api.Open, Name: m[1]}
	for _, a := range attrPattern.FindAllStringSubmatch(m[2], -1) {
		value, e := chars.Unescape(a[2][1:len(a[2])-1], true)
		if e != api.OK {
			return nil, 0
		}
		open.Attrs = append(open.Attrs, api.Attr{Name: a[1], Value: value})
	}
	if strings.HasSuffix(m[0], "/>") {
		return []api.Event{open, {Kind: api.Close, Name: m[1]}}, len(m[0])
	}
	return []api.Event{open}, len(m[0])
}

// hold holds what Read answers against what is wanted, and tells the error that is wanted.
func hold(t *testing.T, b string) api.Errno {
	t.Helper()
	want, wantErr := wantRead(b)
	got, at, e := Read(b)
	if e != wantErr || !sameEvents(got, want) {
		t.Errorf("Read(%.300q): %s %v, want %s %v", b, brief(got), e, brief(want), wantErr)
	}
	if at < 0 || at > len(b) || e == api.OK && at != 0 || e != api.OK && len(got) != 0 {
		t.Errorf("Read(%.300q): place %v, %v events, %v", b, at, len(got), e)
	}
	return wantErr
}

// sameEvents tells whether two lists of events are the same: nil and empty lists are.
func sameEvents(a, b []api.Event) bool {
	if len(a) != len(b) {
		return false
	}
	for i := range a {
		x, y := a[i], b[i]
		if len(x.Attrs) == 0 && len(y.Attrs) == 0 {
			x.Attrs, y.Attrs = nil, nil
		}
		if !reflect.DeepEqual(x, y) {
			return false
		}
	}
	return true
}

// brief is the beginning of what a value looks like.
func brief(v any) string {
	return fmt.Sprintf("%.300q", fmt.Sprintf("%v", v))
}

// source makes numbers, the same ones in every test run.
type source struct{ state uint64 }

func (s *source) below(n int) int {
	s.state = s.state*6364136223846793005 + 1442695040888963407
	x := s.state
	x ^= x >> 33
	x *= 0xff51afd7ed558ccd
	return int((x ^ x>>29) >> 1 % uint64(n))
}

// join is some of the parts, one after the other.
func (s *source) join(parts []string, most int) string {
	var b strings.Builder
	for range s.below(most + 1) {
		b.WriteString(parts[s.below(len(parts))])
	}
	return b.String()
}

// words hands every string of at most so many of the parts to a check.
func words(parts []string, most int, check func(s string)) {
	check("")
	if most == 0 {
		return
	}
	for _, p := range parts {
		words(parts, most-1, func(s string) {
			check(p + s)
		})
	}
}
