package chars

import (
	"regexp"
	"strconv"
	"strings"
	"testing"
	"unicode/utf8"

	"tariff/api"
)

// What the chapter says, worked out by patterns and replacements, step by step.

// notTexts are strings that are no text: not UTF-8, or with a character that no text has.
var notTexts = []string{"\x00", "\x01", "\x08", "\x0b", "\x0c", "\x0e", "\x1f", "\xff", "\xfe", "\x80", "\xbf", "\xc0\x80", "\xc1\xbf", "\xe0\x80\x80", "\xe0\x9f\xbf",
	"\xf0\x80\x80\x80", "\xf0\x8f\xbf\xbf", "\xed\xa0\x80", "\xed\xbf\xbf", "\xed\xa0\x80\xed\xb0\x80", "\uffff", "\ufffe", "\xf4\x90\x80\x80", "\xf5\x80\x80\x80",
	"\xf8\x88\x80\x80\x80", "\xc3", "\xe2\x82", "\xf0\x9f\x98", "a\xc3", "\xc3a", "abc\x00", "\x00abc", "é\xff", "\xe9", "\"\x00\"", "\"\xff\"", "&\x00;", "<\xff"}

// someTexts are texts with characters of every size, and with all that is escaped.
var someTexts = []string{"", "a", "abc", "price_2", "\t\n\r ", "é", "\u00e9a", "\u007f\u0080\u07ff\u0800\ud7ff\ue000\ufffd\U00010000\U0001fffe\U0001ffff\U0010ffff",
	"a<b>&\"\n", "\r\n\r\r\n", "a\"b\\\n", "'", "&amp;lt;", "&#65;", "]]>", "\\n", "\\", "\"", "\"\"", "\\\\\"", "日本語", "😀x😀", "\ufeff", "e\u0301",
	strings.Repeat("é\r\n\t<&>\"'\\", 500)}

// source makes numbers, the same ones in every test run.
type source struct{ state uint64 }

func (s *source) below(n int) int {
	s.state = s.state*6364136223846793005 + 1442695040888963407
	x := s.state
	x ^= x >> 33
	x *= 0xff51afd7ed558ccd
	return int((x ^ x>>29) >> 1 % uint64(n))
}

// join is some of the parts, one after the other.
func (s *source) join(parts []string, most int) string {
	var b strings.Builder
	for range s.below(most + 1) {
		b.WriteString(parts[s.below(len(parts))])
	}
	return b.String()
}

// words hands every string of at most so many of the parts to a check.
func words(parts []string, most int, check func(s string)) {
	check("")
	if most == 0 {
		return
	}
	for _, p := range parts {
		words(parts, most-1, func(s string) {
			check(p + s)
		})
	}
}

var (
	refPattern    = regexp.MustCompile(`&(?:lt|gt|amp|quot|apos|#[0-9]+|#x[0-9a-fA-F]+);`)
	quotePattern  = regexp.MustCompile(`^"(?:[^"\\\n\r\t]|\\["\\nrt])*"$`)
	escapePattern = regexp.MustCompile(`\\["\\nrt]`)
)

// wantChar is the character of a reference, and whether it has one.
func wantChar(ref string) (string, bool) {
	named := map[string]string{"&lt;": "<", "&gt;": ">", "&amp;": "&", "&quot;": "\"", "&apos;": "'"}
	if c := named[ref]; c != "" {
		return c, true
	}
	digits, base := ref[len("&#"):len(ref)-1], 10
	if digits[0] == 'x' {
		digits, base = digits[1:], 16
	}
	n, err := strconv.ParseInt(digits, base, 64)
	if err != nil || n > utf8.MaxRune || !wantRune(rune(n)) {
		return "", false
	}
	return string(rune(n)), true
}

// wantRune tells whether a character is among those that the chapter lists.
func wantRune(r rune) bool {
	for _, span := range [][2]rune{{9, 9}, {0xA, 0xA}, {0xD, 0xD}, {0x20, 0xD7FF}, {0xE000, 0xFFFD}, {0x10000, 0x10FFFF}} {
		if r >= span[0] && r <= span[1] {
			return true
		}
	}
	return false
}

// wantUnescape is Unescape of a text.
func wantUnescape(s string, attr bool) (string, api.Errno) {
	s = strings.ReplaceAll(s, "\r\n", "\n")
	s = strings.ReplaceAll(s, "\r", "\n")
	if attr {
		s = strings.ReplaceAll(s, "\t", " ")
		s = strings.ReplaceAll(s, "\n", " ")
	}
	if strings.ContainsAny(refPattern.ReplaceAllString(s, ""), "&<") {
		return "", api.ErrText
	}
	wrong := false
	s = refPattern.ReplaceAllStringFunc(s, func(ref string) string {
		c, ok := wantChar(ref)
		wrong = wrong || !ok
		return c
	})
	if wrong {
		return "", api.ErrText
	}
	return s, api.OK
}

// wantUnquote is Unquote of a text.
func wantUnquote(s string) (string, api.Errno) {
	if !quotePattern.MatchString(s) {
		return "", api.ErrText
	}
	replace := map[string]string{`\"`: `"`, `\\`: `\`, `\n`: "\n", `\r`: "\r", `\t`: "\t"}
	return escapePattern.ReplaceAllStringFunc(s[1:len(s)-1], func(e string) string { return replace[e] }), api.OK
}

// same holds a text and an error against those that are wanted.
func same(t *testing.T, call string, got string, e api.Errno, want string, wantErr api.Errno) {
	t.Helper()
	if got != want || e != wantErr {
		t.Errorf("%.300s: %.300q %v, want %.300q %v", call, got, e, want, wantErr)
	}
}
