package chars

import (
	"fmt"
	"strings"
	"testing"

	"tariff/api"
)

// P4.2: Escape puts references for what the chapter lists, and for nothing else.
func TestEscape(t *testing.T) {
	data := strings.NewReplacer("&", "&amp;", "<", "&lt;", ">", "&gt;", "\r", "&#13;")
	attr := strings.NewReplacer("&", "&amp;", "<", "&lt;", ">", "&gt;", "\r", "&#13;", "\"", "&quot;", "\t", "&#9;", "\n", "&#10;")
	for _, s := range someTexts {
		got, e := Escape(s, false)
		same(t, "Escape", got, e, data.Replace(s), api.OK)
		got, e = Escape(s, true)
		same(t, "Escape", got, e, attr.Replace(s), api.OK)
	}
	for r := rune(0x20); r < 0x3000; r++ {
		if strings.ContainsRune("&<>\"", r) {
			continue
		}
		got, e := Escape(string(r), true)
		same(t, "Escape", got, e, string(r), api.OK)
	}
	for _, s := range notTexts {
		for _, attr := range []bool{false, true} {
			got, e := Escape(s, attr)
			same(t, "Escape", got, e, "", api.ErrForm)
			got, e = Unescape(s, attr)
			same(t, "Unescape", got, e, "", api.ErrForm)
		}
	}
}

// P4.2: Unescape(Escape(s, attr), attr) is s.
func TestEscapeAndBack(t *testing.T) {
	check := func(s string) {
		for _, attr := range []bool{false, true} {
			there, e := Escape(s, attr)
			if e != api.OK {
				t.Errorf("Escape: %q %v", s, e)
			}
			back, e := Unescape(there, attr)
			same(t, "Unescape "+there, back, e, s, api.OK)
		}
	}
	for _, s := range someTexts {
		check(s)
	}
	words([]string{"&", "<", ">", "\r", "\n", "\t", "\"", "'", "a", "é", "amp;", "#"}, 4, check)
}

// P4.2: Unescape of each short string of the bytes that matter to it.
func TestUnescapeWords(t *testing.T) {
	check := func(s string) {
		for _, attr := range []bool{false, true} {
			want, wantErr := wantUnescape(s, attr)
			got, e := Unescape(s, attr)
			same(t, fmt.Sprintf("Unescape(%q, %v)", s, attr), got, e, want, wantErr)
		}
	}
	words([]string{"&", "#", "x", "X", "6", "a", "F", ";", "lt", "\r", "\n"}, 6, check)
	words([]string{"&lt;", "&gt;", "&amp;", "&quot;", "&apos;", "&#x", "&#", "13", "0", ";", "\r", "\n", "\t", "<", ">", "é"}, 4, check)
	s := &source{state: 1}
	parts := []string{"&lt;", "&gt;", "&amp;", "&quot;", "&apos;", "&#xD;", "&#10;", "&#9;", "&#x1F600;", "&#xe9;", "\r", "\n", "\r\n", "\t", "\"", "'", ">", "é", "a", " "}
	for range 20000 {
		check(s.join(parts, 30))
	}
	parts = append(parts, "<", "&", ";", "&#0;", "&nbsp;", "&#55296;", "&LT;")
	for range 20000 {
		check(s.join(parts, 6))
	}
}

// P4.2: references to the characters on both sides of each bound, in both bases,
// with zeros ahead, and far beyond.
func TestUnescapeNumbers(t *testing.T) {
	zeros := strings.Repeat("0", 100)
	for _, r := range []rune{0, 1, 8, 9, 0xA, 0xB, 0xC, 0xD, 0xE, 0x1F, 0x20, 0x26, 0x3C, 0x7F, 0x80, 0xD7FF, 0xD800, 0xDBFF, 0xDC00, 0xDFFF, 0xE000, 0xFFFD,
		0xFFFE, 0xFFFF, 0x10000, 0x1FFFE, 0x10FFFF, 0x110000, 0x110001, 0x1000041} {
		want, wantErr := "", api.ErrText
		if wantRune(r) {
			want, wantErr = string(r), api.OK
		}
		for _, s := range []string{fmt.Sprintf("&#%d;", r), fmt.Sprintf("&#x%x;", r), fmt.Sprintf("&#x%X;", r), fmt.Sprintf("&#%s%d;", zeros, r), fmt.Sprintf("&#x%s%x;", zeros, r)} {
			for _, attr := range []bool{false, true} {
				got, e := Unescape(s, attr)
				same(t, "Unescape "+s, got, e, want, wantErr)
			}
		}
	}
	// Some of these numbers are 65 modulo 2^32 or 2^64.
	for _, s := range []string{"&#99999999999999999999999999;", "&#x" + strings.Repeat("f", 1000) + ";", "&#" + strings.Repeat("9", 100000) + ";",
		"&#4294967361;", "&#x100000041;", "&#18446744073709551681;", "&#x10000000000000041;"} {
		got, e := Unescape(s, false)
		same(t, "Unescape "+s, got, e, "", api.ErrText)
	}
}

// P4.2: the chapter's examples, and what is no reference.
func TestUnescapeExamples(t *testing.T) {
	for _, c := range []struct{ s, data, attr string }{
		{"&#x41;&#66;&apos;", "AB'", "AB'"}, {"a\r\nb\rc", "a\nb\nc", "a b c"}, {"&amp;lt;", "&lt;", "&lt;"}, {"&amp;#65;", "&#65;", "&#65;"}, {"", "", ""},
		{"a > b", "a > b", "a > b"}, {"\"'", "\"'", "\"'"}, {"\t", "\t", " "}, {"&#13;&#10;\r\n", "\r\n\n", "\r\n "}, {"&#9;\t", "\t\t", "\t "}, {"&#13;\n", "\r\n", "\r "},
		{"\r\r\n\n", "\n\n\n", "   "}, {"&lt;a&gt;", "<a>", "<a>"}, {"#;&#x000041;lt;", "#;Alt;", "#;Alt;"},
	} {
		got, e := Unescape(c.s, false)
		same(t, "Unescape "+c.s, got, e, c.data, api.OK)
		got, e = Unescape(c.s, true)
		same(t, "Unescape "+c.s, got, e, c.attr, api.OK)
	}
	for _, s := range []string{"&", "&lt", "&#0;", "&#xd800;", "&nbsp;", "<", "&;", "&#;", "&#x;", "&#X41;", "&#x41", "&#65", "&#6 5;", "& lt;", "&lt ;", "&LT;", "&Amp;", "&ltx;",
		"&l\nt;", "&#xg;", "&#-65;", "&#+65;", "&#6a;", "&#x4_1;", "&&lt;", "&lt;&", "&#\u0663;", "a<", "&quot", "&apos", "a & b", "&#", "&#x"} {
		for _, attr := range []bool{false, true} {
			got, e := Unescape(s, attr)
			same(t, "Unescape "+s, got, e, "", api.ErrText)
		}
	}
}
