package chars

import (
	"fmt"
	"math"
	"strings"
	"testing"
	"unicode/utf8"

	"tariff/api"
)

// P4.1: Valid of each character by itself and among others.
func TestValidRunes(t *testing.T) {
	for r := rune(0); r <= utf8.MaxRune; r++ {
		if r >= 0xD800 && r <= 0xDFFF {
			continue
		}
		s := string(r)
		if Valid(s) != wantRune(r) || Valid("a"+s+"é") != wantRune(r) {
			t.Errorf("Valid: %q", s)
		}
	}
}

// P4.1: Valid of strings of one to three bytes, and of each surrogate.
func TestValidBytes(t *testing.T) {
	for i := 0; i < 1<<16; i++ {
		s := string([]byte{byte(i >> 8), byte(i)})
		want := utf8.ValidString(s)
		for _, r := range s {
			want = want && wantRune(r)
		}
		if Valid(s) != want {
			t.Errorf("Valid: %q", s)
		}
	}
	for r := 0xD800; r <= 0xDFFF; r++ {
		s := string([]byte{0xE0 | byte(r>>12), 0x80 | byte(r>>6&0x3F), 0x80 | byte(r&0x3F)})
		if Valid(s) {
			t.Errorf("Valid: %q", s)
		}
	}
	for _, s := range notTexts {
		if Valid(s) {
			t.Errorf("Valid: %q", s)
		}
	}
	for _, s := range someTexts {
		if !Valid(s) {
			t.Errorf("Valid: %q", s)
		}
	}
}

// P4.1: Count counts characters, not bytes.
func TestCount(t *testing.T) {
	for _, s := range someTexts {
		if n, e := Count(s); n != len([]rune(s)) || e != api.OK {
			t.Errorf("Count: %q %v %v", s, n, e)
		}
	}
	if n, e := Count("\u00e9a"); n != 2 || e != api.OK {
		t.Error("Count", n, e)
	}
	for _, s := range notTexts {
		if n, e := Count(s); n != 0 || e != api.ErrForm {
			t.Errorf("Count: %q %v %v", s, n, e)
		}
	}
}

// wantPart is Part by a list of characters.
func wantPart(s string, from, n int) string {
	var got []rune
	list := []rune(s)
	first := from
	if from < 0 {
		first = 1
		if from >= -len(list) {
			first = len(list) + from + 1
		}
	}
	for i, r := range list {
		if i+1 >= first && len(got) < n {
			got = append(got, r)
		}
	}
	return string(got)
}

// P4.1: Part from each place, of each length.
func TestPart(t *testing.T) {
	far := []int{math.MaxInt, math.MaxInt - 1, math.MinInt, math.MinInt + 1, 1 << 32, -1 << 32, 1<<32 + 2}
	for _, s := range []string{"", "a", "abcde", "aé日😀\n", "😀😀😀"} {
		places := far
		for i := -8; i <= 8; i++ {
			places = append(places, i)
		}
		for _, from := range places {
			for _, n := range places {
				want, wantErr := "", api.ErrArg
				if from != 0 && n >= 0 {
					want, wantErr = wantPart(s, from, n), api.OK
				}
				got, e := Part(s, from, n)
				same(t, fmt.Sprintf("Part(%q, %d, %d)", s, from, n), got, e, want, wantErr)
			}
		}
	}
}

// P4.1: the chapter's examples of Part, and what is no text.
func TestPartExamples(t *testing.T) {
	for _, c := range []struct {
		s       string
		from, n int
		want    string
	}{{"abcde", 2, 3, "bcd"}, {"abcde", -2, 9, "de"}, {"abcde", -9, 2, "ab"}, {"abc", 9, 1, ""}, {"abc", 4, 1, ""}, {"abc", 3, 1, "c"}, {"abc", 1, 0, ""},
		{"abc", -3, 1, "a"}, {"abc", -4, 1, "a"}, {"日本語", 2, 1, "本"}, {"日本語", -1, 1, "語"}} {
		got, e := Part(c.s, c.from, c.n)
		same(t, "Part "+c.s, got, e, c.want, api.OK)
	}
	for _, s := range notTexts {
		got, e := Part(s, 1, 1)
		same(t, "Part", got, e, "", api.ErrForm)
		got, e = Part(s, 0, 1)
		same(t, "Part", got, e, "", api.ErrArg)
		got, e = Part(s, 1, -1)
		same(t, "Part", got, e, "", api.ErrArg)
	}
}

// P4.1: Upper and Lower change 26 letters, and nothing beside them.
func TestUpperAndLower(t *testing.T) {
	small, great := "abcdefghijklmnopqrstuvwxyz", "ABCDEFGHIJKLMNOPQRSTUVWXYZ"
	var others strings.Builder
	for r := rune(0); r <= 0x3000; r++ {
		if wantRune(r) && !strings.ContainsRune(small+great, r) {
			others.WriteRune(r)
		}
	}
	rest := others.String() + "\u017f\u212a\u0130\u0131\U0001f600\uff5a"
	all := small + rest + great + small
	got, e := Upper(all)
	same(t, "Upper", got, e, great+rest+great+great, api.OK)
	got, e = Lower(all)
	same(t, "Lower", got, e, small+rest+small+small, api.OK)
	for _, s := range notTexts {
		got, e := Upper(s)
		same(t, "Upper", got, e, "", api.ErrForm)
		got, e = Lower(s)
		same(t, "Lower", got, e, "", api.ErrForm)
	}
	got, e = Upper("")
	same(t, "Upper", got, e, "", api.OK)
}
