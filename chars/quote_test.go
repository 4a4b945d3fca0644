package chars

import (
	"fmt"
	"regexp"
	"strings"
	"testing"

	"tariff/api"
)

// P4.3: Quote escapes five characters, and no other.
func TestQuote(t *testing.T) {
	r := strings.NewReplacer("\"", "\\\"", "\\", "\\\\", "\n", "\\n", "\r", "\\r", "\t", "\\t")
	for _, s := range someTexts {
		got, e := Quote(s)
		same(t, "Quote", got, e, "\""+r.Replace(s)+"\"", api.OK)
	}
	for c := rune(0x20); c < 0x3000; c++ {
		if c == '"' || c == '\\' {
			continue
		}
		got, e := Quote(string(c))
		same(t, "Quote", got, e, "\""+string(c)+"\"", api.OK)
	}
	got, e := Quote("a\"b\\\n")
	same(t, "Quote", got, e, "\"a\\\"b\\\\\\n\"", api.OK)
	for _, s := range notTexts {
		got, e := Quote(s)
		same(t, "Quote", got, e, "", api.ErrForm)
		got, e = Unquote(s)
		same(t, "Unquote", got, e, "", api.ErrForm)
	}
}

// P4.3: Unquote(Quote(s)) is s.
func TestQuoteAndBack(t *testing.T) {
	check := func(s string) {
		there, e := Quote(s)
		if e != api.OK {
			t.Errorf("Quote: %q %v", s, e)
		}
		back, e := Unquote(there)
		same(t, "Unquote "+there, back, e, s, api.OK)
	}
	for _, s := range someTexts {
		check(s)
	}
	words([]string{"\"", "\\", "\n", "\r", "\t", "n", "r", "é"}, 5, check)
}

// P4.3: Unquote of each short string of the bytes that matter to it.
func TestUnquoteWords(t *testing.T) {
	check := func(s string) {
		want, wantErr := wantUnquote(s)
		got, e := Unquote(s)
		same(t, fmt.Sprintf("Unquote(%q)", s), got, e, want, wantErr)
	}
	parts := []string{"\"", "\\", "n", "r", "t", "x", "\n", "é"}
	words(parts, 5, check)
	words(parts, 5, func(s string) { check("\"" + s + "\"") })
}

// P4.3: the chapter's examples, and what is no quoted form.
func TestUnquoteExamples(t *testing.T) {
	for s, want := range map[string]string{"\"\"": "", "\"a\"": "a", "\"a\\\"b\\\\\\n\"": "a\"b\\\n", "\"\\\\\"": "\\", "\"\\\"\"": "\"", "\"\\r\\t\\n\"": "\r\t\n",
		"\"日本語'\"": "日本語'", "\"\\\\n\"": "\\n"} {
		got, e := Unquote(s)
		same(t, "Unquote "+s, got, e, want, api.OK)
	}
	for _, s := range []string{"", "\"", "a", "\"a\"b\"", "\"\\x\"", "\"\\\"", "\"\\", "\"a", "a\"", "'a'", "\"a'", " \"a\"", "\"a\" ", "\"\\\\\"\"", "\"\"\"", "\"a\nb\"",
		"\"a\rb\"", "\"a\tb\"", "\"\\\n\"", "\"\\u0041\"", "\"\\/\"", "\"\\N\"", "\"\\'\"", "\"\\é\"", "\"\\\\\\\""} {
		got, e := Unquote(s)
		same(t, "Unquote "+s, got, e, "", api.ErrText)
	}
}

var keywords = []string{"and", "between", "else", "false", "if", "in", "not", "null", "or", "then", "true"}

// wantName is Name by a pattern and the list of keywords.
func wantName(s string) bool {
	if wantWord(s) {
		return false
	}
	return regexp.MustCompile(`^[A-Za-z_][A-Za-z0-9_]{0,63}$`).MatchString(s) && !strings.HasSuffix(s, "\n")
}

func wantWord(s string) bool {
	for _, w := range keywords {
		if s == w {
			return true
		}
	}
	return false
}

// P4.4: Name and Word of the keywords, of their neighbours and of other strings.
func TestNameAndWord(t *testing.T) {
	list := []string{"price_2", "2x", "", "a b", "_", "__", "_1", "a", "Z", "z9", "a-b", "a.b", "é", "aé", "a\n", "\na", " a", "a ", "a\x00", "\xff", "a\xff", "1", "-", "A1_b",
		strings.Repeat("a", 63), strings.Repeat("a", 64), strings.Repeat("a", 65), strings.Repeat("_", 64), strings.Repeat("9", 64), "a" + strings.Repeat("9", 63),
		"a" + strings.Repeat("9", 64), strings.Repeat("a", 100000), "return", "some", "every", "for", "date", "NULL"}
	for _, w := range keywords {
		list = append(list, w, w+"_", "_"+w, w+"2", w+" ", " "+w, strings.ToUpper(w), w[1:], w[:len(w)-1], w+w, strings.ToUpper(w[:1])+w[1:])
	}
	for c := 0; c < 256; c++ {
		b := string([]byte{byte(c)})
		list = append(list, b, "a"+b, b+"a", "a"+b+"a")
	}
	for _, s := range list {
		if Name(s) != wantName(s) {
			t.Errorf("Name: %q", s)
		}
		if Word(s) != wantWord(s) {
			t.Errorf("Word: %q", s)
		}
	}
	if !Name("price_2") || Name("2x") || Name("") || Name("if") || Name("a b") || !Word("if") || Word("") || Word("If") {
		t.Error("the chapter's examples")
	}
}
