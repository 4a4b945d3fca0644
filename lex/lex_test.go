package lex

import (
	"strings"
	"testing"

	"tariff/api"
)

// num is n / 10^scale, which must be in form.
func num(n uint64, scale, at int) api.Token {
	return api.Token{Kind: api.TNum, Num: api.Dec{Coef: api.Wide{Lo: n}, Scale: scale}, At: at}
}

func str(text string, at int) api.Token  { return api.Token{Kind: api.TStr, Text: text, At: at} }
func day(n, at int) api.Token            { return api.Token{Kind: api.TDate, Day: n, At: at} }
func name(text string, at int) api.Token { return api.Token{Kind: api.TName, Text: text, At: at} }
func word(text string, at int) api.Token { return api.Token{Kind: api.TWord, Text: text, At: at} }
func sign(text string, at int) api.Token { return api.Token{Kind: api.TSign, Text: text, At: at} }

// P9.1: the chapter's examples, and texts like them.
func TestReadExamples(t *testing.T) {
	for s, want := range map[string][]api.Token{
		"":                               nil,
		" \t\r\n":                        nil,
		"a+1.5":                          {name("a", 0), sign("+", 1), num(15, 1, 2)},
		"[1..2]":                         {sign("[", 0), num(1, 0, 1), sign("..", 2), num(2, 0, 4), sign("]", 5)},
		"1.x":                            {num(1, 0, 0), sign(".", 1), name("x", 2)},
		"<=>":                            {sign("<=", 0), sign(">", 2)},
		"@\"2024-02-29\"":                {day(738945, 0)},
		"@\"0001-01-01\"@\"9999-12-31\"": {day(1, 0), day(3652059, 13)},
		"1.50":                           {num(15, 1, 0)},
		"0":                              {num(0, 0, 0)},
		"0.00":                           {num(0, 0, 0)},
		"1 . 5":                          {num(1, 0, 0), sign(".", 2), num(5, 0, 4)},
		"1.":                             {num(1, 0, 0), sign(".", 1)},
		".5":                             {sign(".", 0), num(5, 0, 1)},
		"1.2.3":                          {num(12, 1, 0), sign(".", 3), num(3, 0, 4)},
		"1...2":                          {num(1, 0, 0), sign("..", 1), sign(".", 3), num(2, 0, 4)},
		"....":                           {sign("..", 0), sign("..", 2)},
		"1a":                             {num(1, 0, 0), name("a", 1)},
		"1e2":                            {num(1, 0, 0), name("e2", 1)},
		"-1":                             {sign("-", 0), num(1, 0, 1)},
		"a1_B.c":                         {name("a1_B", 0), sign(".", 4), name("c", 5)},
		"_":                              {name("_", 0)},
		"iff if If":                      {name("iff", 0), word("if", 4), name("If", 7)},
		"not(null)":                      {word("not", 0), sign("(", 3), word("null", 4), sign(")", 8)},
		"a!=b":                           {name("a", 0), sign("!=", 1), name("b", 3)},
		"==>=<<=<>":                      {sign("=", 0), sign("=", 1), sign(">=", 2), sign("<", 4), sign("<=", 5), sign("<", 7), sign(">", 8)},
		"{a:[],(*)}":                     {sign("{", 0), name("a", 1), sign(":", 2), sign("[", 3), sign("]", 4), sign(",", 5), sign("(", 6), sign("*", 7), sign(")", 8), sign("}", 9)},
		"a\t/\r\n-b ":                    {name("a", 0), sign("/", 2), sign("-", 5), name("b", 6)},
		`""`:                             {str("", 0)},
		`"a""b"`:                         {str("a", 0), str("b", 3)},
		`"\"\\\n\r\t"x`:                  {str("\"\\\n\r\t", 0), name("x", 12)},
		`"\\"x`:                          {str("\\", 0), name("x", 4)},
		`"é😀 /'@"a`:                      {str("é😀 /'@", 0), name("a", 12)},
		`"@" "1"`:                        {str("@", 0), str("1", 4)},
	} {
		got, e := Read(s)
		if e != api.OK || !same(got, want) {
			t.Errorf("Read(%q): %v %v, want %v", s, got, e, want)
		}
		hold(t, s)
	}
}

// P9.1: what can't be divided.
func TestReadWrong(t *testing.T) {
	for _, s := range []string{
		`@ "2024-02-29"`, `@`, `@a`, `@@"2024-02-29"`, `@"`, `@""`, `@"2024-02-29`, `@"2024-2-29"`, `@"2024-02-29 "`, `@"2024-02-29\n"`, `@"2024-02-29T00:00"`, `@"\x"`, `a@`,
		"01", "00", "00.5", "007", "1 01", "a+01.5", "1.2.03.4 01",
		"1.2.3 !", "\"a", "\"", "\"\\", "\"\\\"", "\"a\\\\\\\"", "\"\\x\"", "\"\\é\"", "\"\\ \"", "\"\n\"", "\"\r\"", "\"\t\"", "\"a\\\nb\"", "a\"",
		"$", "'a'", "a$b", "é", "aé", "\u00a0", "a\u2003b", "!", "a ! = b", "!a", "#", "%", "&", ";", "?", "\\", "^", "`", "|", "~",
		strings.Repeat("a", 65), strings.Repeat("_", 900), "x " + strings.Repeat("Z9", 33), "if" + strings.Repeat("0", 63),
	} {
		if got, e := Read(s); e != api.ErrText || len(got) != 0 {
			t.Errorf("Read(%.100q): %v %v", s, got, e)
		}
		hold(t, s)
	}
	for _, s := range []string{strings.Repeat("a", 64), "_" + strings.Repeat("0", 63), strings.Repeat("a", 64) + " " + strings.Repeat("b", 64) + "+" + strings.Repeat("c", 64)} {
		if e := hold(t, s); e != api.OK {
			t.Errorf("Read(%.100q): %v", s, e)
		}
	}
}

// P9.1: the errors, in their order, wherever in the text they lie.
func TestReadErrors(t *testing.T) {
	over, far := "0.0000000000000000001", "@\"2023-02-29\""
	for _, c := range []struct {
		s    string
		want api.Errno
	}{
		{over, api.ErrOver}, {far, api.ErrFar}, {over + " $", api.ErrText}, {"$ " + over, api.ErrText}, {far + " $", api.ErrText}, {far + over, api.ErrOver}, {over + far, api.ErrOver}, {"1 " + far + " 2", api.ErrFar}, {"1+" + over + "+1", api.ErrOver},
		{far + over + "\"", api.ErrText}, {far + strings.Repeat("a", 65), api.ErrText}, {over + " 01", api.ErrText}, {far + " @\"\"", api.ErrText}, {over + " " + far + " a", api.ErrOver}, {far + far, api.ErrFar}, {far + "@\"2024-02-29\"", api.ErrFar}, {over + " 1", api.ErrOver},
		{"@\"0000-01-01\"", api.ErrFar}, {"@\"2024-13-01\"", api.ErrFar}, {"@\"9999-99-99\"", api.ErrFar}, {"@\"2024-00-00\"", api.ErrFar},
		{"9999999999999999999999999999999999", api.OK}, {"10000000000000000000000000000000000", api.ErrOver}, {"0.000000000000000001", api.OK}, {"0.0000000000000000010", api.OK}, {"1000000000000000000.0000000000000001", api.ErrOver}, {"0." + strings.Repeat("0", 998), api.OK}, {strings.Repeat("9", 1000), api.ErrOver}, {"0" + strings.Repeat("9", 999), api.ErrText},
		{"\xff", api.ErrForm}, {"$\xff", api.ErrForm}, {"\x00", api.ErrForm}, {"a\x00", api.ErrForm}, {"\"\x0b\"", api.ErrForm}, {"\"\ufffe\"", api.ErrForm}, {"\"\xed\xa0\x80\"", api.ErrForm}, {over + "\x01", api.ErrForm}, {"\xc3", api.ErrForm},
		{strings.Repeat(" ", 1000), api.OK}, {strings.Repeat(" ", 1001), api.ErrLong}, {strings.Repeat("(", 1000), api.OK}, {strings.Repeat("\xff", 1001), api.ErrLong}, {strings.Repeat("\xff", 1000), api.ErrForm}, {strings.Repeat("$", 1001), api.ErrLong}, {strings.Repeat("$", 1000), api.ErrText},
		{"\"" + strings.Repeat("é", 499) + "\"", api.OK}, {"\"" + strings.Repeat("é", 499) + "a\"", api.ErrLong}, {strings.Repeat("\\", 100000), api.ErrLong},
	} {
		if e := hold(t, c.s); e != c.want {
			t.Errorf("Read(%.100q): wanted %v, told %v", c.s, c.want, e)
		}
	}
}

// P9.1: each byte at each kind of place, and each pair of bytes that a text may have.
func TestReadBytes(t *testing.T) {
	for c := range 256 {
		b := string([]byte{byte(c)})
		for _, s := range []string{b, "a" + b, b + "a", "a" + b + "a", "1" + b, "1" + b + "1", "1." + b, "1.5" + b, "\"" + b + "\"", "\"\\" + b + "\"", "\"a" + b, "@" + b, "@\"" + b + "\"", "@\"2024-02-2" + b + "\"", "." + b, "." + b + ".", "!" + b, "<" + b, ">" + b, "if" + b, b + "if", " " + b + " "} {
			hold(t, s)
		}
		for d := range 128 {
			hold(t, b+string(rune(d)))
		}
	}
}

// P9.1: each short string of what matters to it.
func TestReadWords(t *testing.T) {
	count := map[api.Errno]int{}
	check := func(ahead, behind string) func(s string) {
		return func(s string) { count[hold(t, ahead+s+behind)]++ }
	}
	words([]string{"0", "1", ".", "a", " ", "-", "=", "<"}, 5, check("", ""))
	words([]string{"\"", "\\", "n", " ", "\n", "@", "1"}, 5, check("", ""))
	words([]string{"\"", "\\", "n", "t", "é", "\t"}, 5, check("\"", "\""))
	words([]string{"2", "0", "-", "1", "3"}, 4, check("@\"2024-0", "\""))
	words([]string{"0", "1", "2", "3", "9"}, 4, check("@\"20", "-11-30\""))
	words([]string{"<", ">", "=", "!", ".", "+", "a"}, 5, check("", ""))
	words([]string{"i", "f", "n", "1", "_", " ", "I", "."}, 4, check("", ""))
	words([]string{"0", "00000000", ".", "1", "9"}, 6, check("", ""))
	words([]string{"@\"2024-01-31\"", "@\"2024-02-31\"", "0.1", "0.0000000000000000001", "$", "\"x\"", " "}, 4, check("", ""))
	// Without enough of each, the words would tell little.
	if count[api.OK] < 20000 || count[api.ErrText] < 20000 || count[api.ErrOver] < 300 || count[api.ErrFar] < 50 {
		t.Error("what the words come to", count)
	}
}

// P9.1: longer texts, and the same ones with a byte more, less or changed.
func TestReadLonger(t *testing.T) {
	pieces := []string{"a", "price_2", "1", "0.25", "100", "\"a b\"", "\"\\\"\\\\\"", "@\"2024-02-29\"", "if", "then", "between", "and", "(", ")", "[", "]", "{", "}", ",", ":", ".", "..", "+", "-", "*", "/", "=", "!=", "<", "<=", ">", ">=", " ", "\n", "\t \r"}
	s := &source{state: 9}
	for range 40000 {
		var b strings.Builder
		for range s.below(30) {
			b.WriteString(pieces[s.below(len(pieces))])
			b.WriteString([]string{"", " "}[s.below(2)])
		}
		text := b.String()
		hold(t, text)
		const bytes = "\"\\@.01a! \n-=<$\x00\xff"
		at, c := s.below(len(text)+1), bytes[s.below(len(bytes)):][:1]
		hold(t, text[:at]+c+text[at:])
		hold(t, text[:at]+c+text[min(at+1, len(text)):])
		hold(t, text[:at]+text[min(at+1, len(text)):])
	}
}

// P9.2: no later call changes an earlier result, nor does a change to one change another.
func TestReadNewMemory(t *testing.T) {
	text := "if price >= 1.5 then \"a\" else @\"2024-02-29\""
	want, _ := wantRead(text)
	first, _ := Read(text)
	second, _ := Read(text)
	first = append(first, name("more", 0), name("more", 0))
	for i := range first[:cap(first)] {
		first[:cap(first)][i] = name("other", 99)
	}
	third, _ := Read(text)
	if !same(second, want) || !same(third, want) {
		t.Error(second, third)
	}
}
