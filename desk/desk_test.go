package desk

import (
	"slices"
	"strings"
	"testing"

	"tariff/api"
	"tariff/dsl"
	"tariff/model"
)

// The chapter's model, and a decision with the table of its second example.
const example = `model m ""
input i x : number

decision d y : number
  needs i
  = x * 2

decision t z
  needs i
  table C
    in number : x
    out out
    | < 5 => 1
    | > 5 => 2
`

const exampleDocument = `<?xml version="1.0" encoding="UTF-8"?>
<definitions xmlns="urn:tariff:dmn" id="m" name="">
  <inputData id="i" name="x">
    <variable typeRef="number"/>
  </inputData>
  <decision id="d" name="y">
    <variable typeRef="number"/>
    <informationRequirement>
      <requiredInput href="#i"/>
    </informationRequirement>
    <literalExpression>
      <text>x * 2</text>
    </literalExpression>
  </decision>
  <decision id="t" name="z">
    <informationRequirement>
      <requiredInput href="#i"/>
    </informationRequirement>
    <decisionTable hitPolicy="COLLECT">
      <input>
        <inputExpression typeRef="number">
          <text>x</text>
        </inputExpression>
      </input>
      <output name="out"/>
      <rule>
        <inputEntry>
          <text>&lt; 5</text>
        </inputEntry>
        <outputEntry>
          <text>1</text>
        </outputEntry>
      </rule>
      <rule>
        <inputEntry>
          <text>&gt; 5</text>
        </inputEntry>
        <outputEntry>
          <text>2</text>
        </outputEntry>
      </rule>
    </decisionTable>
  </decision>
</definitions>
`

// A model with a decision of each sort: texts that need one another in another order than they stand in, tables
// with none to three columns, with two outputs, with errors, and one that can't be analysed.
const shop = `model shop "Prices"
item tier string : "new", "old"
item low number : [0..10]
item days list<date>
input i1 level : tier
input i2 price : low
input i3 when : days
input i4 any_one
input i5 sure : boolean

decision d2 total : number
  needs d1, i2
  = price * rate

decision d1 rate : number
  needs i1
  table U
    in tier : level
    out part : number
    | "new" => 0.9
    default => 1

decision d3 all_of
  needs i4, i3, d2, i5, i1
  = [any_one, when, total, sure, level]

decision d4 one_over
  needs i2
  = 1 / price

decision two both
  needs i2, i5
  table R
    in low : price
    in boolean : sure
    out a : number
    out b
    | [2..4] | -    => 1 | "x"
    | > 3    | true => 2 | null
    | 1, 7   | -    => 3 | price

decision three triple : number
  needs i1, i2, i5
  table C#
    in tier : level
    in boolean : sure
    in low : price
    out o
    | "new" | true  | < 5 => 1
    | "new" | -     | 4   => 2
    | -     | false | 4   => 3
    | "old" | false | -   => 4

decision bare plain
  table A
    out o
    | => 1
    | => 1

decision none nothing
  table F
    out o

decision text order
  needs i1
  table P
    in string : level
    out o : string = "b" | "a"
    | < "k" => "a"

decision far last
  needs d4, bare
  = [one_over, plain]
`

// read is the model of a text.
func read(t *testing.T, b string) api.Model {
	t.Helper()
	m, _, e := dsl.Read(b)
	if e != api.OK {
		t.Fatal(b, e)
	}
	return m
}

// hold holds what a command answers against a text. The model must be the same afterwards.
func hold(t *testing.T, b, line, want string) {
	t.Helper()
	if answer := holdCommand(t, read(t, b), line); answer != want {
		t.Errorf("%q: %q, want %q", line, answer, want)
	}
	if answers, e := Play(b, []string{line}); !slices.Equal(answers, []string{want}) || e != api.OK {
		t.Errorf("%q: %q %v, want %q", line, answers, e, want)
	}
}

// P27.1, P27.2: the chapter's examples, and the example of layer 20 as a document.
func TestExamples(t *testing.T) {
	for _, c := range [][2]string{
		{"plan", "d t"}, {"scope d", "x:number"}, {"eval d {x: 2}", "4"}, {"again xml", "same"}, {"again dsl", "same"}, {"all {}", "d=null; t=[]"},
		{"eval d", "error 5"}, {"eval z {}", "error 8"}, {`eval d {x: "a"}`, "error 16"}, {"eval d 1", "error 9"}, {"gaps d", "error 9"}, {"plan x", "error 5"}, {"PLAN", "error 5"}, {"", "error 5"},
		{"gaps t", "1 of 3 1-1"}, {"twice t", "apart"}, {"count t", "1 2"}, {"hits t {x: 9}", "1"}, {"lines t", "error 1"},
		{"dsl", example}, {"xml", exampleDocument},
	} {
		hold(t, example, c[0], c[1])
	}
	// One after another, as in the chapter.
	alone, _, _ := strings.Cut(example, "\ndecision t")
	for _, b := range []string{alone, exampleDocument} {
		lines := []string{"plan", "scope d", "eval d {x: 2}", "again xml", "all {}"}
		want := []string{"d", "x:number", "4", "same", "d=null"}
		if b == exampleDocument {
			want[0], want[4] = "d t", "d=null; t=[]"
		}
		if answers, e := Play(b, lines); !slices.Equal(answers, want) || e != api.OK {
			t.Errorf("%q %v", answers, e)
		}
	}
}

// P27.1: what each command answers for decisions of each sort.
func TestAnswers(t *testing.T) {
	for _, c := range [][2]string{
		{"plan", "d1 d2 d3 d4 two three bare none text far"},
		{"scope d1", "level:string"}, {"scope d2", "rate:number price:number"}, {"scope d3", "any_one:any when:list<date> total:number sure:boolean level:string"}, {"scope bare", ""}, {"scope far", "one_over:any plain:any"}, {"scope i1", "error 8"}, {"scope rate", "error 8"}, {"scope D1", "error 8"},
		{`eval d2 {level: "new", price: 10}`, "9"}, {`eval d2 {price: 10}`, "10"}, {"eval d2 {}", "null"}, {`eval d3 {any_one: {a: ["é\n", null]}, when: [@"2024-02-29"], sure: false}`, `[{a: ["é\n", null]}, [@"2024-02-29"], null, false, null]`},
		{"eval two {price: 3.5}", `[{a: 1, b: "x"}]`}, {"eval two {price: 4, sure: true}", `[{a: 1, b: "x"}, {a: 2, b: null}]`}, {"eval two {}", "[]"}, {"eval bare {}", "1"}, {"eval none {}", "null"}, {`eval text {level: "new"}`, "null"}, {`eval text {level: "x"}`, "error 16"}, {"eval d4 {price: 0}", "error 4"}, {"eval d2 {price: 11}", "error 16"}, {`eval d2 {level: "x"}`, "error 16"}, {"eval far {price: 0}", "error 4"}, {"eval far {price: 4}", "[0.25, 1]"}, {"eval d1 [1]", "error 9"}, {"eval d1 null", "error 9"}, {"eval i1 {}", "error 8"}, {"eval i1 1", "error 8"},
		{`all {price: 0, level: "old", sure: true}`, `d1=1; d2=0; d3=[null, null, 0, true, "old"]; d4=error 4; two=[]; three=0; bare=1; none=null; text=null; far=error 4`},
		{`all {price: 20, when: [1]}`, `d1=1; d2=error 16; d3=error 16; d4=error 16; two=error 16; three=error 16; bare=1; none=null; text=null; far=error 16`},
		{`all {level: "old", price: 3, sure: false}`, `d1=1; d2=3; d3=[null, null, 3, false, "old"]; d4=0.333333333333333333; two=[{a: 1, b: "x"}]; three=1; bare=1; none=null; text=null; far=[0.333333333333333333, 1]`},
		{"all 1", "error 9"}, {"all []", "error 9"},
		{"hits two {price: 4, sure: true}", "0 1"}, {"hits two {price: 7, sure: true}", "1 2"}, {"hits two {price: 0}", ""}, {"hits two {price: -1}", "error 16"}, {"hits d2 {}", "error 9"}, {"hits z {}", "error 8"}, {"hits z 1", "error 8"}, {"hits d2 1", "error 9"}, {"hits two 1", "error 9"}, {"hits bare {}", "0 1"}, {"hits none {}", ""},
		{"gaps d1", "1 of 2 1-1"}, {"gaps two", "9 of 26 0-1x0-1 3-3x0-1 9-9x0-0 11-12x0-0"}, {"gaps text", "error 18"}, {"gaps bare", "complete"}, {"gaps none", "1 of 1 all"}, {"gaps d2", "error 9"}, {"gaps z", "error 8"},
		{"twice d1", "apart"}, {"twice two", "0+1:2@7-8x1-1 1+2:1@10-10x1-1"}, {"twice text", "error 18"}, {"twice bare", "0+1:1@all"}, {"twice none", "apart"}, {"twice d2", "error 9"}, {"twice z", "error 8"},
		{"lines two", "0+0i,2+0i,2+2i,0+2i 3+0i,4+0i,4+2i,3+2i 9+0i,10+0i,10+1i,9+1i 11+0i,13+0i,13+1i,11+1i"}, {"lines d1", "error 1"}, {"lines bare", "error 1"}, {"lines text", "error 18"}, {"lines d2", "error 9"}, {"lines z", "error 8"},
		{"count d1", "1 1"}, {"count two", "9 14 3"}, {"count bare", "0 0 1"}, {"count none", "1"}, {"count text", "error 18"}, {"count d2", "error 9"}, {"count z", "error 8"},
		{"gaps three", "16 of 28 0-0x0-0x0-1 0-0x0-0x3-6 0-1x1-1x4-6 1-1x1-1x0-3"}, {"twice three", "0+1:1@0-0x1-1x2-2 1+2:1@0-0x0-0x2-2 2+3:1@1-1x0-0x2-2"}, {"count three", "16 9 3"},
		{"dsl", shop},
	} {
		hold(t, shop, c[0], c[1])
	}
}

// P27.1: each word with each rest, and blanks of both kinds around and within them.
func TestLines(t *testing.T) {
	m := read(t, shop)
	words := []string{"xml", "dsl", "plan", "again", "scope", "eval", "all", "hits", "gaps", "twice", "lines", "count",
		"", "XML", "Plan", "xm", "xmll", "again\n", "evals", "eva", "scope\r", "all\u00a0", "all{}", "eval,", "two", "help", "=", "#"}
	rests := []string{"", "xml", "dsl", "XML", "xml dsl", "dsl xml", "dsl\tdsl", "plan", "two", "two two", "two {price: 4}", "two\t{price: 4}", "two \t {price: 4}", "two {price: 4} x", "two {price:4}", "two {price:\t4}", "two {", "two 1", "two {} {}",
		"{price: 4}", "{}", "{}{}", "1", "{", "z", "z {}", "z {", "two\n{}", "two\r", "\u00a0", "two\u00a0{}", "\ntwo", "-", `"two" {}`, "two {}", "d1", "d2", "d2 {}", "d2 1", "text", "bare"}
	seen := map[string]bool{}
	for _, word := range words {
		for _, rest := range rests {
			for _, line := range []string{word + " " + rest, word + "\t" + rest, " " + word + "  \t" + rest + "\t ", "\t " + word + "\t " + rest + "  "} {
				seen[holdCommand(t, m, line)] = true
			}
		}
	}
	for _, want := range []string{"error 5", "error 8", "error 9", "error 18", "same", "complete", "apart", "0+1:1@all", "9 14 3", "0", "[]"} {
		if !seen[want] {
			t.Errorf("%q is answered nowhere", want)
		}
	}
}

// P27.1: the bytes 20 and 9 alone are blanks, between a word, an id and a value as well as around all of it.
func TestBlanks(t *testing.T) {
	m := read(t, shop)
	for c := range rune(0x100) {
		s := string(c)
		if c != '\t' && c != '\n' && c != '\r' && c < ' ' {
			continue // no text
		}
		blank := c == ' ' || c == '\t'
		for line, want := range map[string]string{"plan" + s: "d1 d2 d3 d4 two three bare none text far", s + "plan": "d1 d2 d3 d4 two three bare none text far", "again" + s + "xml": "same", "scope" + s + "d1": "level:string", "gaps d1" + s: "1 of 2 1-1", "hits" + s + "bare {}": "0 1", "hits bare" + s + "{}": "0 1", "eval bare {}" + s: "1", "all" + s + "{x: 1}": "d1=1; d2=null; d3=[null, null, null, null, null]; d4=null; two=[]; three=0; bare=1; none=null; text=null; far=[null, 1]"} {
			if got := holdCommand(t, m, line); (got == want) != blank {
				t.Errorf("%q: %q", line, got)
			}
		}
	}
}

// P27.1: which of both forms is read, and its errors.
func TestLoad(t *testing.T) {
	m := read(t, example)
	_, headless, _ := strings.Cut(exampleDocument, "\n")
	for _, b := range []string{example, exampleDocument, headless, " \t\n\r" + headless, "\n\t\r " + example, "# <\n" + example, strings.Replace(exampleDocument, "<def", "<!-- model --><def", 1)} {
		if now, e := Load(b); !model.Same(now, m) || e != api.OK {
			t.Errorf("%q: %v %v", b, now, e)
		}
	}
	for b, want := range map[string]api.Errno{
		"": api.ErrText, " ": api.ErrText, "<": api.ErrText, " " + exampleDocument: api.ErrText, "\xff": api.ErrForm, "<\xff": api.ErrForm, "\v" + headless: api.ErrForm, "\u00a0" + headless: api.ErrText, "\ufeff" + headless: api.ErrText, "#" + exampleDocument: api.ErrText,
		"<definitions/>": api.ErrMiss, "<a/>": api.ErrMiss, "model m": api.ErrText, "model m \"\" <": api.ErrText,
		strings.Replace(example, "x * 2", "x*2", 1): api.ErrForm, strings.Replace(exampleDocument, "x * 2", "x*2", 1): api.ErrForm,
		strings.Replace(example, "x * 2", "z", 1): api.ErrName, strings.Replace(exampleDocument, "x * 2", "z", 1): api.ErrName,
		strings.Replace(example, "needs i", "needs d", 1): api.ErrCycle, strings.Replace(exampleDocument, "<requiredInput href=\"#i\"/>", "<requiredDecision href=\"#d\"/>", 1): api.ErrCycle,
		example + "#" + strings.Repeat("a", api.MaxBytes-len(example)):              api.ErrLong,
		exampleDocument + strings.Repeat("\n", 1+api.MaxBytes-len(exampleDocument)): api.ErrLong,
	} {
		if now, e := Load(b); !model.Same(now, api.Model{}) || e != want {
			t.Errorf("%.100q: %v %v, want %v", b, now, e, want)
		}
		if answers, e := Play(b, []string{"plan"}); len(answers) != 0 || e != want {
			t.Errorf("%.100q: %v %v, want %v", b, answers, e, want)
		}
	}
	for _, b := range []string{example + "#" + strings.Repeat("a", api.MaxBytes-len(example)-1), exampleDocument + strings.Repeat("\n", api.MaxBytes-len(exampleDocument))} {
		if now, e := Load(b); !model.Same(now, m) || e != api.OK {
			t.Error(now, e)
		}
	}
}

// long is a line of so many bytes.
func long(line string, n int) string {
	return line + strings.Repeat(" ", n-len(line))
}

// P27.1, P1: the errors of Command in their order.
func TestCommandErrors(t *testing.T) {
	m := read(t, example)
	twice, named, cyclic, typed, heavy := read(t, example), read(t, example), read(t, example), read(t, example), read(t, example)
	twice.Decisions[1].Id = "d"
	named.Decisions[0].Text = "z"
	cyclic.Decisions[0].Needs = []string{"d"}
	typed.Decisions[0].Item = "string"
	heavy.Name = strings.Repeat("a", api.MaxWeight)
	tooLong, noText := long("plan", api.MaxBytes+1), "plan\xff"
	for i, c := range []struct {
		m    api.Model
		line string
		want api.Errno
	}{
		{api.Model{}, "plan", api.ErrForm}, {api.Model{}, "", api.ErrForm}, {api.Model{}, tooLong, api.ErrForm}, {twice, "plan", api.ErrTwice}, {twice, noText, api.ErrTwice}, {named, tooLong, api.ErrName}, {cyclic, noText, api.ErrCycle}, {typed, "what", api.ErrType}, {heavy, noText, api.ErrLong},
		{m, tooLong, api.ErrLong}, {m, tooLong + "\xff", api.ErrLong}, {m, strings.Repeat("\xff", api.MaxBytes+1), api.ErrLong}, {m, strings.Repeat("a", api.MaxBytes+1), api.ErrLong},
		{m, noText, api.ErrForm}, {m, "\x00", api.ErrForm}, {m, "what \uffff", api.ErrForm}, {m, "\xed\xa0\x80", api.ErrForm}, {m, strings.Repeat("\xff", api.MaxBytes), api.ErrForm}, {m, `eval d {x: "` + "\x1f" + `"}`, api.ErrForm},
	} {
		answer, now, e := Command(c.m, c.line)
		if answer != "" || !model.Same(now, api.Model{}) || e != c.want {
			t.Error(i, answer, now, e, c.want)
		}
	}
	for line, want := range map[string]string{long("plan", api.MaxBytes): "d t", long("plan x", api.MaxBytes): "error 5", strings.Repeat("a", api.MaxBytes): "error 5", long("eval d {x: 2}", api.MaxBytes): "4", "eval d {x: " + strings.Repeat("9", api.MaxBytes-12) + "}": "error 5", "é": "error 5"} {
		hold(t, example, line, want)
	}
}

// P27.2, P1: the errors of Play in their order, and how many lines there may be.
func TestPlayErrors(t *testing.T) {
	tooLong, noText := long("plan", api.MaxBytes+1), "plan\xff"
	lines := func(n int, more ...string) []string {
		return append(slices.Repeat([]string{"plan"}, n), more...)
	}
	for i, c := range []struct {
		b     string
		lines []string
		want  api.Errno
	}{
		{"", lines(51), api.ErrText}, {"", lines(1, noText), api.ErrText}, {"\xff", lines(0, tooLong), api.ErrForm}, {"<a/>", lines(51, noText), api.ErrMiss},
		{example, lines(51), api.ErrLong}, {example, lines(50, noText), api.ErrLong}, {example, append([]string{noText}, lines(50)...), api.ErrLong}, {exampleDocument, lines(1000), api.ErrLong}, {example, make([]string, 51), api.ErrLong},
		{example, lines(49, noText), api.ErrForm}, {example, lines(0, noText, tooLong), api.ErrForm}, {example, lines(0, tooLong, noText), api.ErrLong}, {exampleDocument, lines(3, tooLong, "plan"), api.ErrLong}, {example, lines(0, "again xml", "what", noText, "plan"), api.ErrForm},
	} {
		if answers, e := Play(c.b, c.lines); len(answers) != 0 || e != c.want {
			t.Error(i, answers, e, c.want)
		}
	}
	for _, n := range []int{0, 1, 49, 50} {
		if answers, e := Play(exampleDocument, lines(n)); !slices.Equal(answers, slices.Repeat([]string{"d t"}, n)) || e != api.OK {
			t.Error(n, answers, e)
		}
	}
	// A line that is no command is answered, too.
	if answers, e := Play(example, []string{"", "plan", "what", "eval z {}", "plan"}); !slices.Equal(answers, []string{"error 5", "d t", "error 5", "error 8", "d t"}) || e != api.OK {
		t.Error(answers, e)
	}
}

// P27.1: an answer has at most MaxBytes bytes.
func TestLongAnswers(t *testing.T) {
	list := "[" + strings.Repeat("x, ", 297) + "x, y]"
	b := "model m \"\"\ninput i x\ninput j y\ndecision d l\nneeds i, j\n= " + list + "\ndecision e k\nneeds j\n= y\n"
	size := func(n int) string {
		text := strings.Repeat("a", api.MaxText)
		return `{x: "` + text + `", y: "` + text[:n] + `"}`
	}
	// The list has 298 texts of 1000 bytes and one of n, each in quotes, commas and blanks between, and brackets.
	room := api.MaxBytes - 2 - 299*2 - 298*2 - 298*api.MaxText
	for n, want := range map[int]int{room - 1: api.MaxBytes - 1, room: api.MaxBytes} {
		if answer := holdCommand(t, read(t, b), "eval d "+size(n)); len(answer) != want {
			t.Error(n, len(answer), want)
		}
		hold(t, b, "all "+size(n), "error 6")
	}
	hold(t, b, "eval d "+size(room+1), "error 6")
	// Of all decisions there are "d=" and "; e=" besides, and the text of n bytes again.
	if answer := holdCommand(t, read(t, b), "all "+size((room-8)/2)); len(answer) != api.MaxBytes {
		t.Error(len(answer))
	}
	hold(t, b, "all "+size((room-8)/2+1), "error 6")
	answers, e := Play(b, []string{"eval d " + size(room+1), "plan", "eval d {}"})
	if len(answers) != 3 || answers[0] != "error 6" || answers[1] != "d e" || e != api.OK {
		t.Error(answers, e)
	}
}
