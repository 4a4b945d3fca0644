package value

import (
	"reflect"
	"strings"
	"testing"

	"tariff/api"
)

// holdRead holds Read against what is wanted, and Print against Read.
func holdRead(t *testing.T, s string) bool {
	t.Helper()
	v, e := Read(s)
	if !wantRead(s) {
		if e != api.ErrText || !reflect.DeepEqual(v, api.Value{}) {
			t.Errorf("Read(%.300q): %v %v, want ErrText", s, v, e)
		}
		return false
	}
	back, f := Print(v)
	if e != api.OK || f != api.OK || back != s || wantCheck(v) != api.OK || wantPrint(v) != s {
		t.Errorf("Read(%.300q): %v %v, printed as %q %v", s, v, e, back, f)
	}
	return true
}

// words hands each string of at most n pieces to a check.
func words(pieces []string, n int, check func(s string)) {
	check("")
	if n == 0 {
		return
	}
	for _, p := range pieces {
		words(pieces, n-1, func(s string) { check(p + s) })
	}
}

// P7.3: the chapter's examples, and one of everything.
func TestPrintExamples(t *testing.T) {
	for s, v := range map[string]api.Value{
		`{a: 1.5, b: ["x", null]}`: ctx("a b", num(15, 1), list(text("x"), null)), "null": null, "true": yes, "false": no, "[]": list(), "{}": ctx(""), "[[]]": list(list()), "[{}]": list(ctx("")), "{_: {}}": ctx("_", ctx("")),
		"0": num(0, 0), "-1": num(-1, 0), "-0.5": num(-5, 1), "0.000000000000000001": num(1, 18), "9223372036854775807": num(9223372036854775807, 0), "10": num(10, 0), "9999999999999999999999999999999999": {Kind: api.Num, Num: api.Dec{Coef: api.Wide{Hi: 542101086242752, Lo: 4003012203950112767}}},
		`""`: text(""), `"\"\\\n\r\t/é"`: text("\"\\\n\r\t/é"), `@"0001-01-01"`: day(1), `@"9999-12-31"`: day(3652059), `@"2024-02-29"`: day(738945), "[null, true, false]": list(null, yes, no), `{b: 1, a: {b: "a: 1, b: 2"}}`: ctx("b a", num(1, 0), ctx("b", text("a: 1, b: 2"))),
		`["]", "[", "}", ", "]`: list(text("]"), text("["), text("}"), text(", ")), `{nul: "null"}`: ctx("nul", text("null")),
	} {
		if got, e := Print(v); got != s || e != api.OK {
			t.Errorf("Print(%v): %q %v, want %q", v, got, e, s)
		}
		if got, e := Read(s); !reflect.DeepEqual(copied(got), copied(v)) || e != api.OK {
			t.Errorf("Read(%q): %v %v, want %v", s, got, e, v)
		}
		holdRead(t, s)
	}
}

// P7.3: what no value is printed as.
func TestReadWrong(t *testing.T) {
	for _, s := range []string{"", " ", "[1,2]", " 1", "1 ", "{a: 1, a: 2}", "{a: 1, b: {}, a: 2}", "1.50", "[", "]", "{", "}", "@", `@"`, `@""`, `"`, `\`, `"\`, `"\"`, "nul", "nulll", "Null", "nulltrue", "null null", "truefalse", "+1", "-0", "--1", "01", "00", "1.", ".5", "1.0", "0.0", "1e2", "1..2", "-", ".",
		"1-2", "0x1", "１", "0.0000000000000000001", "10000000000000000000000000000000000", "1000000000000000000.0000000000000001", "[1 ,2]", "[1,  2]", "[1, 2, ]", "[, 1]", "[,]", "[1, ]", "[ ]", "[1]]", "[[1]", "(1)", "{ }", "{a:1}", "{a : 1}", "{a:  1}", "{a: 1,b: 2}", "{a: 1, }", "{, a: 1}", "{a}", "{a: }",
		"{1: 1}", "{: 1}", `{"a": 1}`, "{null: 1}", "{if: 1}", "{a b: 1}", "{é: 1}", "{a: 1]", "[a: 1]", "{1}", "a", "a: 1", "[1}", `@"2024-02-30"`, `@"2023-02-29"`, `@"0000-01-01"`, `@"2024-1-01"`, `@ "2024-01-01"`, `@2024-01-01`, `"2024-01-01`, `@"2024-01-01`, `@"\2024-01-01"`, `@@"2024-01-01"`, `"a"b"`, `"\x"`, `"\u0041"`, "\"\n\"", "\"\t\"", "\"\r\"",
		"\"\xff\"", "\"\x00\"", "\xff", "\ufeff1", `'a'`, `"a" `, `"a""b"`, `"a", "b"`, `["a""b"]`, "1\n", "1, 2", "\"\\\n\"", "\"\ufffe\"", "{" + strings.Repeat("a", 65) + ": 1}"} {
		if holdRead(t, s) {
			t.Errorf("%q is taken for a value", s)
		}
	}
}

// P7.3: Read of each short string of pieces.
func TestReadWords(t *testing.T) {
	count := 0
	check := func(s string) {
		if holdRead(t, s) {
			count++
		}
	}
	words([]string{"[", "]", ", ", "1", "{", "}", "a: "}, 6, check)
	words([]string{"0", "1", "-", ".", "50", " "}, 6, check)
	words([]string{`"`, `\`, "n", "\n", "é", "@", "x"}, 5, check)
	words([]string{`@"`, `"`, "2024", "-02", "-29", "-31", "0000-", "\\"}, 5, check)
	words([]string{"null", "true", "false", "[", "]", ", ", ",", " "}, 5, check)
	words([]string{"{", "}", "a: ", "b: ", "null", "null: ", ", "}, 6, check)
	if count < 500 {
		t.Error(count)
	}
}

// P7.3: Read(Print(v)) is v, and no string that differs in one byte is taken wrongly.
func TestPrintAndRead(t *testing.T) {
	s := &source{state: 73}
	for i := range 3000 {
		v := s.value(4)
		text, e := Print(v)
		if e != api.OK || text != wantPrint(v) {
			t.Fatalf("Print(%v): %q %v, want %q", v, text, e, wantPrint(v))
		}
		got, e := Read(text)
		if e != api.OK || !reflect.DeepEqual(copied(got), copied(v)) || !Same(got, v) {
			t.Errorf("Read(%q): %v %v, want %v", text, got, e, v)
		}
		if i%10 > 0 || len(text) > 60 {
			continue
		}
		for at := range len(text) {
			holdRead(t, text[:at])
			holdRead(t, text[at:])
			holdRead(t, text[:at]+text[at+1:])
			for _, c := range "\" ,:[]{}01-.an\\@\n" {
				holdRead(t, text[:at]+string(c)+text[at:])
				holdRead(t, text[:at]+string(c)+text[at+1:])
			}
		}
	}
}

// P7.3: the limits of parts, depth, texts and names.
func TestReadLimits(t *testing.T) {
	deep := func(n int) string { return strings.Repeat("[", n) + strings.Repeat("]", n) }
	flat := func(n int) string { return "[" + strings.Repeat("1, ", n-1) + "1]" }
	long := func(n int) string { return `"` + strings.Repeat(`\"`, n) + `"` }
	for s, want := range map[string]bool{
		deep(16): true, deep(17): false, strings.Repeat("[", 15) + "1" + strings.Repeat("]", 15): true, strings.Repeat("[", 16) + "1" + strings.Repeat("]", 16): false, strings.Repeat("{a: ", 15) + "1" + strings.Repeat("}", 15): true, strings.Repeat("{a: ", 16) + "1" + strings.Repeat("}", 16): false,
		"[" + deep(14) + ", " + deep(15) + "]": true, "[" + deep(14) + ", " + deep(16) + "]": false, flat(999): true, flat(1000): false, "[" + flat(499) + ", " + flat(498) + "]": true, "[" + flat(499) + ", " + flat(499) + "]": false, long(1000): true, long(1001): false, `"` + strings.Repeat("é", 500) + `"`: true,
		`"` + strings.Repeat("é", 501) + `"`: false, "{" + strings.Repeat("a", 64) + ": 1}": true, "{" + strings.Repeat("a", 65) + ": 1}": false,
	} {
		if holdRead(t, s) != want {
			t.Errorf("Read(%.50q): %v", s, !want)
		}
	}
}

// P1, P7.3: strings as long as may be, and longer ones, which are ErrLong whatever they hold.
func TestReadLong(t *testing.T) {
	// Each text is printed as 2002 bytes.
	part := `"` + strings.Repeat(`\n`, 1000) + `"`
	v := list()
	for range 149 {
		v.List = append(v.List, text(strings.Repeat("\n", 1000)))
	}
	s, _ := Print(v)
	left := 300000 - len(s) - len(`, ""`)
	v.List = append(v.List, text(strings.Repeat("\n", left-900)+strings.Repeat("a", 1800-left)))
	s, e := Print(v)
	if len(s) != 300000 || e != api.OK || !strings.HasPrefix(s, "["+part+", "+part) {
		t.Fatal(len(s), e)
	}
	if got, e := Read(s); e != api.OK || !Same(got, v) {
		t.Error(e)
	}
	v.List[149].Text += "a"
	s, e = Print(v)
	if len(s) != 300001 || e != api.OK {
		t.Fatal(len(s), e)
	}
	for _, s := range []string{s, strings.Repeat("x", 300001), strings.Repeat("\xff", 300001), strings.Repeat("[", 300001), strings.Repeat(" ", 1<<21)} {
		if got, e := Read(s); e != api.ErrLong || !reflect.DeepEqual(got, api.Value{}) {
			t.Errorf("Read(%.20q): %v", s, e)
		}
	}
	for _, piece := range []string{"[", "{", "{a: ", "[1, ", "[{a: ", `"`, `\`, `"\`, "@", `@"`, "1", "-", ".", "1.", "null", "a", ": ", "{a", "é", "\x00", `{a: "`, "[[1, 2], ", `["\"`} {
		s := strings.Repeat(piece, 300000/len(piece))
		if got, e := Read(s); e != api.ErrText || !reflect.DeepEqual(got, api.Value{}) {
			t.Errorf("Read(%.20q): %v", s, e)
		}
	}
	for i := range v.List {
		v.List[i] = text(strings.Repeat("\n", 1000))
	}
	if s, e := Print(v); s != "["+strings.Repeat(part+", ", 149)+part+"]" || e != api.OK {
		t.Error(len(s), e)
	}
}

// shake changes all that a value's slices hold, with what is behind their ends.
func shake(v api.Value) {
	for _, w := range v.List {
		shake(w)
	}
	v.List, v.Names = v.List[:cap(v.List)], v.Names[:cap(v.Names)]
	for i := range v.List {
		v.List[i] = text("shaken")
	}
	for i := range v.Names {
		v.Names[i] = "shaken"
	}
}

// P7.4: no two lists of a result share memory, and no later call changes an earlier result.
func TestReadNewMemory(t *testing.T) {
	s := `[[1, 2, 3], {a: [1], b: {c: 1, d: 2, e: [5, 6]}}, [], {}, [[1, 2, 3], [1, 2, 3]], {x: 1}]`
	first, _ := Read(s)
	second, _ := Read(s)
	want := copied(first)
	for i := range first.List {
		shake(first.List[i])
		for k := i + 1; k < len(first.List); k++ {
			if !reflect.DeepEqual(copied(first.List[k]), want.List[k]) {
				t.Errorf("value %d changes with value %d", k, i)
			}
		}
	}
	third, _ := Read(s)
	inner := third.List[1].List[1]
	shake(inner.List[2])
	inner.Names[0] = "other"
	if text, e := Print(third); text != `[[1, 2, 3], {a: [1], b: {other: 1, d: 2, e: ["shaken", "shaken"]}}, [], {}, [[1, 2, 3], [1, 2, 3]], {x: 1}]` || e != api.OK {
		t.Error(text, e)
	}
	if !reflect.DeepEqual(copied(second), want) {
		t.Error(second)
	}
}
