package dsl

import (
	"slices"
	"strings"
	"testing"
)

// P21.1: the chapter's example, and what it says of quotes, of blanks and of the sign.
func TestSplit(t *testing.T) {
	for _, c := range []struct {
		s, sign string
		want    []string
	}{
		{`a | "b|c" |`, "|", []string{"a", `"b|c"`, ""}},
		{"", "|", []string{""}}, {"", "", []string{""}}, {" \t\r", "|", []string{""}}, {" a\tb\r", "", []string{"a\tb"}}, {" a | b ", "", []string{"a | b"}}, {`"a`, "", []string{`"a`}},
		{"|", "|", []string{"", ""}}, {"||", "|", []string{"", "", ""}}, {"a", "|", []string{"a"}}, {"a||b", "|", []string{"a", "", "b"}},
		{"a=>b=>c", "=>", []string{"a", "b", "c"}}, {"a==>b", "=>", []string{"a=", "b"}}, {"a= >b", "=>", []string{"a= >b"}}, {"=>", "=>", []string{"", ""}}, {"=", "=>", []string{"="}},
		{"aaaaa", "aa", []string{"", "", "a"}}, {"abab", "aba", []string{"", "b"}}, {"aaab", "aab", []string{"a", ""}}, {"|||", "||", []string{"", "|"}},
		{`"|"|`, "|", []string{`"|"`, ""}}, {`"|`, "|", []string{`"|`}}, {`a"|`, "|", []string{`a"|`}}, {`""|""`, "|", []string{`""`, `""`}}, {`"" "|"|"`, "|", []string{`"" "|"`, `"`}},
		{`"\"|"|`, "|", []string{`"\"|"`, ""}}, {`"\\"|"|"`, "|", []string{`"\\"`, `"|"`}}, {`"\\\"|"|`, "|", []string{`"\\\"|"`, ""}}, {`\"|"|`, "|", []string{`\"|"`, ""}}, {`\|\`, "|", []string{`\`, `\`}}, {`"\`, "|", []string{`"\`}}, {`|"\|`, "|", []string{"", `"\|`}}, {`"a\n"|`, "|", []string{`"a\n"`, ""}},
		{`"a=">b`, "=>", []string{`"a=">b`}}, {`="a"=>`, "=>", []string{`="a"`, ""}}, {`=">"`, "=>", []string{`=">"`}},
		// What isn't a blank stays, and quotes keep the blanks within them.
		{"\na\n|\v b\u00a0|\x00", "|", []string{"\na\n", "\v b\u00a0", "\x00"}}, {`" a "| " b`, "|", []string{`" a "`, `" b`}}, {`" a `, "|", []string{`" a`}}, {"\"a\nb|\"|", "|", []string{"\"a\nb|\"", ""}},
		// A sign may have blanks, and bytes of any kind.
		{"a  b", " ", []string{"a", "", "b"}}, {" a ", " ", []string{"", "a", ""}}, {"a | b|c", " | ", []string{"a", "b|c"}}, {"a\t\tb", "\t", []string{"a", "", "b"}}, {"a é b", "é", []string{"a", "b"}}, {"a\xc3\xa9b", "\xa9", []string{"a\xc3", "b"}}, {"\xff|\xfe", "|", []string{"\xff", "\xfe"}}, {`a\b`, `\`, []string{"a", "b"}}, {`"a\b"\`, `\`, []string{`"a\b"`, ""}},
		// A quote is part of what it opens or closes, so it stands outside of quotes nowhere.
		{`a"b"c`, `"`, []string{`a"b"c`}}, {`a|"b"|c`, `|"`, []string{`a|"b"|c`}}, {`a"b"|c`, `"|`, []string{`a"b"|c`}},
	} {
		if got := Split(c.s, c.sign); !slices.Equal(got, c.want) {
			t.Errorf("%q by %q: %q, want %q", c.s, c.sign, got, c.want)
		}
		if want := wantSplit(c.s, c.sign); !slices.Equal(want, c.want) {
			t.Errorf("%q by %q: the oracle says %q, want %q", c.s, c.sign, want, c.want)
		}
	}
}

// P21.1: every text of at most six bytes of some kinds.
func TestEverySplit(t *testing.T) {
	const kinds = "a|=>\"\\ "
	var grow func(s string)
	grow = func(s string) {
		for _, sign := range []string{"|", "=>", "=", "==", " ", "a|", "\\", ""} {
			if got, want := Split(s, sign), wantSplit(s, sign); !slices.Equal(got, want) {
				t.Fatalf("%q by %q: %q, want %q", s, sign, got, want)
			}
		}
		if len(s) < 6 {
			for i := range kinds {
				grow(s + kinds[i:i+1])
			}
		}
	}
	grow("")
}

// P21.1: no sign that stands in the pieces has been passed over, and nothing else has been left out.
func TestPieces(t *testing.T) {
	s := &source{state: 210}
	for range 20000 {
		text := ""
		for range s.below(30) {
			text += s.pick("a", "|", "=>", "=", ">", `"`, `"`, `\`, " ", "\t", "é", ":", ",")
		}
		sign := s.pick("|", "=>", ":", ",", " ", "=", "|=", "é")
		list := Split(text, sign)
		if want := wantSplit(text, sign); !slices.Equal(list, want) {
			t.Errorf("%q by %q: %q, want %q", text, sign, list, want)
		}
		for _, p := range list {
			if again := Split(p, sign); len(again) != 1 || again[0] != p {
				t.Errorf("%q by %q: %q", text, sign, list)
			}
		}
		short := func(s string) string {
			return strings.NewReplacer(" ", "", "\t", "").Replace(s)
		}
		if sign != " " && short(strings.Join(list, sign)) != short(text) {
			t.Errorf("%q by %q: %q", text, sign, list)
		}
	}
}
