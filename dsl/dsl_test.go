package dsl

import (
	"strings"
	"testing"

	"tariff/api"
	"tariff/model"
)

// text of the chapter's first example.
const example = `model m "Prices"
item tier string : "a", "b"
input i x : number

decision d a : number
  needs i
  = x * 2

decision e b : string
  needs d
  table U
    in number : a
    out out : string = "low" | "high"
    | < 10  => "low"
    | >= 10 => "high"
    default => "low"
`

func exampleModel() api.Model {
	number := "number"
	return api.Model{Id: "m", Name: "Prices",
		Items:  []api.Item{{Name: "tier", Type: api.Type{Kind: api.Text}, Allowed: `"a", "b"`}},
		Inputs: []api.Input{{Id: "i", Name: "x", Item: number}},
		Decisions: []api.Decision{
			{Id: "d", Name: "a", Item: number, Needs: []string{"i"}, Text: "x * 2"},
			{Id: "e", Name: "b", Item: "string", Needs: []string{"d"}, Table: api.Table{Policy: api.Unique,
				Ins: []api.Column{{Text: "a", Item: number}}, Outs: []api.Column{{Text: "out", Item: "string", Values: []string{`"low"`, `"high"`}}},
				Rules: []api.Rule{{Tests: []string{"< 10"}, Says: []string{`"low"`}}, {Tests: []string{">= 10"}, Says: []string{`"high"`}}}, Default: []string{`"low"`}}},
		}}
}

// P21.2: the chapter's first example.
func TestExample(t *testing.T) {
	m := exampleModel()
	if s, e := Write(m); s != example || e != api.OK {
		t.Error(s, e)
	}
	if back, at, e := Read(example); !model.Same(back, m) || at != 0 || e != api.OK {
		t.Error(back, at, e)
	}
	for _, b := range []string{example, example[:len(example)-1], strings.ReplaceAll(example, "\n", "\r\n"), strings.ReplaceAll(example, "\n  ", "\n"), strings.ReplaceAll(example, "\n", "\n\n # x\n\t"), "\n#\n" + example} {
		if back, at, e := Read(b); !model.Same(back, m) || at != 0 || e != api.OK {
			t.Error(b, back, at, e)
		}
		holdRead(t, b)
	}
	for _, m := range []api.Model{m, {Id: "m"}, {Id: "_", Name: "\"\\\n"}} {
		if e := holdModel(t, m); e != api.OK {
			t.Error(e)
		}
	}
}

const top = "model m \"\"\n"

// deciding is a text with an input, and a decision that goes on in some way.
func deciding(s string) string {
	return top + "input i x\ndecision d y\n" + s
}

// tabled is a text with a table of some lines.
func tabled(s string) string {
	return deciding("table F\n" + s)
}

// P21.2: each line with faults, and the like without: the chapter's examples, and which error comes first.
func TestRead(t *testing.T) {
	const one, out, rule = "= 1", "out o\n", "| => 1\n"
	in := func(s string) string { return tabled("in " + s + "\nout o") }
	for _, c := range []struct {
		b    string
		want api.Errno
	}{
		{"", api.ErrText}, {"model m", api.ErrText}, {"model m \"a\" b", api.ErrText}, {"model m \"\"\ninput i", api.ErrText}, {"model m \"\"\ndecision d y", api.ErrText}, {"model m \"\"\ndecision d y\n= 1\nneeds i", api.ErrText}, {"model m \"\"\ndecision d y\ntable X", api.ErrText},
		{strings.Repeat("\xff", 300001), api.ErrLong}, {strings.Repeat("\xff", 300000), api.ErrForm}, {strings.Repeat("x", 300001), api.ErrLong}, {strings.Repeat("x", 300000), api.ErrText}, {top + strings.Repeat("#", 300000-len(top)), api.OK}, {top + strings.Repeat("#", 300001-len(top)), api.ErrLong}, {top + strings.Repeat("\n", 300000-len(top)), api.OK}, {top + "\x00", api.ErrForm}, {top + "#\x00", api.ErrForm}, {top + "#\ufffe", api.ErrForm}, {"\x01model", api.ErrForm}, {"\ufeff" + top, api.ErrText}, {top + "\v", api.ErrForm}, {top + "\u00a0", api.ErrText},
		{top, api.OK}, {"model m \"\"", api.OK}, {" \tmodel\t m\r\t\"\" \r", api.OK}, {"model m \"", api.ErrText}, {"model m \"a", api.ErrText}, {"model m \"a\\\"", api.ErrText}, {"model m \"a\tb\"", api.ErrText}, {"model m \"a\\tb\"", api.OK}, {"model m \"a\rb\"", api.ErrText}, {"model m \"\\x\"", api.ErrText}, {"model m \"a\"b\"", api.ErrText}, {"model m a", api.ErrText}, {"model m\"\"", api.ErrText}, {"model \"\"", api.ErrText}, {"model", api.ErrText}, {"modelm \"\"", api.ErrText}, {"model 1 \"\"", api.ErrText}, {"model if \"\"", api.ErrText}, {"model m n \"\"", api.ErrText}, {"model m : \"\"", api.ErrText}, {"Model m \"\"", api.ErrText}, {"model_ \"\"", api.OK}, {"model " + strings.Repeat("m", 64) + " \"\"", api.OK}, {"model " + strings.Repeat("m", 65) + " \"\"", api.ErrText}, {"model m \"" + strings.Repeat("x", 1000) + "\"", api.OK}, {"model m \"" + strings.Repeat("x", 1001) + "\"", api.ErrForm}, {"mod\nel m \"\"", api.ErrText}, {top + top, api.ErrText}, {"input i x\n" + top, api.ErrText}, {"model m \"#\"", api.OK}, {"#\n" + top, api.OK}, {"# " + top, api.ErrText}, {"model m # \"\"", api.ErrText}, {"model m \"\" # x", api.ErrText}, {top + "x", api.ErrText}, {top + "1", api.ErrText}, {top + ":", api.ErrText}, {top + "\"", api.ErrText}, {top + "_", api.ErrText},
		{top + "item t string", api.OK}, {top + "item t string : -", api.OK}, {top + "item t string:-", api.OK}, {top + "item t list<any>", api.OK}, {top + "item t list<list<any>>", api.ErrText}, {top + "item t list <any>", api.ErrText}, {top + "item t", api.ErrText}, {top + "item", api.ErrText}, {top + "item t string :", api.ErrText}, {top + "item t : string", api.ErrText}, {top + "item : string", api.ErrText}, {top + "item t u", api.ErrText}, {top + "item t t", api.ErrText}, {top + "item t string \"a\"", api.ErrText}, {top + "item t string number : -", api.ErrText}, {top + "item if string", api.ErrText}, {top + "item string string", api.ErrForm}, {top + "item t string : \"a\" ", api.OK}, {top + "item t string : \"a\",\"b\"", api.ErrForm}, {top + "item t string : x", api.ErrForm}, {top + "item t string : 1", api.ErrType}, {top + "item t string : : 1", api.ErrForm}, {top + "item t string : \":\"", api.OK}, {top + "item t String", api.ErrText}, {top + "item t string\nitem t string", api.ErrTwice}, {top + "item t string : # x", api.ErrForm}, {top + "itemt string", api.ErrText}, {top + "item1 t string", api.ErrText}, {top + "item_t string", api.OK}, {top + "item \"t\" string", api.ErrText},
		{top + "input i x", api.OK}, {top + "input i x : any", api.OK}, {top + "input i x:list<date>", api.OK}, {top + "input i x : list<date> ", api.OK}, {top + "input i x : list< date >", api.ErrText}, {top + "input i x :", api.ErrText}, {top + "input i x : any any", api.ErrText}, {top + "input i x : any : any", api.ErrText}, {top + "input i x : t", api.ErrName}, {top + "input i x : if", api.ErrText}, {top + "input i x : 1", api.ErrText}, {top + "input i x y", api.ErrText}, {top + "input i : any", api.ErrText}, {top + "input i", api.ErrText}, {top + "input", api.ErrText}, {top + "input 1 x", api.ErrText}, {top + "input i 1", api.ErrText}, {top + "input or x", api.ErrText}, {top + "input i or", api.ErrText}, {top + "input i\rx", api.OK}, {top + "input i\u00a0x", api.ErrText}, {top + "input i\nx", api.ErrText}, {top + "input i i\ninput j i", api.ErrTwice}, {top + "input i x\nitem t any", api.ErrText}, {top + "item t any\ninput i x : t", api.OK}, {top + "input i x\ninput j z\n" + top, api.ErrText}, {top + strings.Repeat("input i x\n", 41), api.ErrLong}, {top + strings.Repeat("input i x\n", 40), api.ErrTwice},
		{deciding(one), api.OK}, {deciding("=1"), api.OK}, {deciding("="), api.ErrText}, {deciding("= "), api.ErrText}, {deciding("= 01"), api.ErrForm}, {deciding("= 1+1"), api.ErrForm}, {deciding("= \""), api.ErrForm}, {deciding("== 1"), api.ErrForm}, {deciding("=> 1"), api.ErrForm}, {deciding("= 1 # x"), api.ErrForm}, {deciding("1"), api.ErrText}, {deciding("= 1\n= 1"), api.ErrText}, {deciding("= 1\ninput j z"), api.ErrText}, {deciding("= 1\nitem t any"), api.ErrText}, {deciding("= 1\ndecision e z\n= 1"), api.OK}, {deciding("= 1\ndecision e z"), api.ErrText}, {deciding("= 1\ndecision e z\n= y"), api.ErrName}, {deciding("= 1\ndecision e z\nneeds d\n= y"), api.OK}, {deciding("= 1\ndecision d z\n= 1"), api.ErrTwice}, {deciding("= true") + "\ndecision e z : number\n= true", api.ErrType}, {deciding("=\n1"), api.ErrText}, {top + "decision d\n= 1", api.ErrText}, {top + "decision d y z\n= 1", api.ErrText}, {top + "decision d y :\n= 1", api.ErrText}, {top + "decision d y : any\n= 1", api.OK}, {top + "decision d y : no\n= 1", api.ErrName}, {top + "decision d y : 1\n= 1", api.ErrText}, {top + "decision dy\n= 1", api.ErrText},
		{deciding("needs i\n= x"), api.OK}, {deciding("needs"), api.ErrText}, {deciding("needs\n= 1"), api.ErrText}, {deciding("needs i"), api.ErrText}, {deciding("needs i,\n= 1"), api.ErrText}, {deciding("needs ,i\n= 1"), api.ErrText}, {deciding("needs ,\n= 1"), api.ErrText}, {deciding("needs i i\n= 1"), api.ErrText}, {deciding("needs 1\n= 1"), api.ErrText}, {deciding("needs if\n= 1"), api.ErrText}, {deciding("needs i,,i\n= 1"), api.ErrText}, {deciding("needs i, i\n= 1"), api.ErrTwice}, {deciding("needs i ,z\n= 1"), api.ErrName}, {deciding("needs d\n= 1"), api.ErrCycle}, {deciding("needs i\nneeds d\n= 1"), api.ErrText}, {deciding("needs x\n= 1"), api.ErrName}, {deciding("needs \"i\"\n= 1"), api.ErrText}, {deciding("needs_\n= 1"), api.ErrName}, {top + "needs i\n= 1", api.ErrText}, {deciding("needs i:\n= 1"), api.ErrText}, {deciding("needs " + strings.Repeat("i, ", 20) + "i\n= 1"), api.ErrLong}, {deciding("needs " + strings.Repeat("i, ", 19) + "i\n= 1"), api.ErrTwice},
		{tabled(out), api.OK}, {tabled(""), api.ErrText}, {deciding("table\nout o"), api.ErrText}, {deciding("tableF\nout o"), api.ErrText}, {deciding("table f\nout o"), api.ErrText}, {deciding("table C +\nout o"), api.ErrText}, {deciding("table F F\nout o"), api.ErrText}, {deciding("table \"F\"\nout o"), api.ErrText}, {deciding("table FIRST\nout o"), api.ErrText}, {deciding("table C#\nout o"), api.OK}, {deciding("table P\nout o"), api.ErrMiss}, {deciding("table P\nout o = 1"), api.OK}, {tabled("in : 1"), api.ErrText}, {tabled("table F\nout o"), api.ErrText}, {tabled(out + one), api.ErrText}, {tabled(out + "needs i"), api.ErrText}, {top + "table F\nout o", api.ErrText}, {deciding("needs i\ntable F\nout o"), api.OK}, {deciding(one) + "\ntable F\nout o", api.ErrText}, {deciding("in : 1\nout o"), api.ErrText}, {deciding(out), api.ErrText}, {deciding(rule), api.ErrText},
		{in(": 1"), api.OK}, {in(":1"), api.OK}, {in("any : 1"), api.OK}, {in("list<any>:[1]"), api.OK}, {in("1"), api.ErrText}, {in(""), api.ErrText}, {in(":"), api.ErrText}, {in("any"), api.ErrText}, {in("any :"), api.ErrText}, {in("any any : 1"), api.ErrText}, {in("1 : 1"), api.ErrText}, {in("if : 1"), api.ErrText}, {in("no : 1"), api.ErrName}, {in("string : 1"), api.ErrType}, {in(": {a: 1}"), api.OK}, {in("{a: 1}"), api.ErrText}, {in("\"a\" : 1"), api.ErrText}, {in("\":\""), api.ErrText}, {in(": : 1"), api.ErrForm}, {in(": \" : \""), api.OK}, {tabled("in: 1\nout o"), api.OK}, {tabled("in_ : 1\nout o"), api.ErrName}, {tabled("out o\nin : 1"), api.ErrText}, {tabled("In : 1\nout o"), api.ErrText}, {tabled("input : 1\nout o"), api.ErrText}, {tabled("in : 1\nin : 2\nout o"), api.OK}, {tabled(strings.Repeat("in : 1\n", 8) + out), api.OK}, {tabled(strings.Repeat("in : 1\n", 9) + out), api.ErrLong},
		{tabled("out o : any"), api.OK}, {tabled("out o:any=1"), api.OK}, {tabled("out o = 1"), api.OK}, {tabled("out o = 1 | 2"), api.OK}, {tabled("out o=1|2"), api.OK}, {tabled("out"), api.ErrText}, {tabled("out 1"), api.ErrText}, {tabled("out if"), api.ErrText}, {tabled("out o p"), api.ErrText}, {tabled("out : any"), api.ErrText}, {tabled("out = 1"), api.ErrText}, {tabled("out o :"), api.ErrText}, {tabled("out o : = 1"), api.ErrText}, {tabled("out o ="), api.ErrText}, {tabled("out o : any ="), api.ErrText}, {tabled("out o = |"), api.ErrText}, {tabled("out o = 1 |"), api.ErrText}, {tabled("out o = | 1"), api.ErrText}, {tabled("out o = 1 || 2"), api.ErrText}, {tabled("out o : any : any"), api.ErrText}, {tabled("out o : any any"), api.ErrText}, {tabled("out o : no"), api.ErrName}, {tabled("out o = 1 : any"), api.ErrForm}, {tabled("out o = x"), api.ErrForm}, {tabled("out o = 1 | 1"), api.ErrForm}, {tabled("out o : string = 1"), api.ErrType}, {tabled("out o = \"|\" | \"=\""), api.OK}, {tabled("out o = = 1"), api.ErrForm}, {tabled("out o => 1"), api.ErrForm}, {tabled("out o | 1"), api.ErrText}, {tabled("out \"o\""), api.ErrText}, {tabled("out o\nout o"), api.ErrForm}, {tabled("out o\nout p"), api.OK}, {tabled("out o : \"=\""), api.ErrText}, {tabled("out o" + strings.Repeat("\nout o", 8)), api.ErrLong}, {tabled("outo"), api.ErrText}, {tabled("out_o"), api.OK},
		// What is a type's name, and no name.
		{"model list<any> \"\"", api.ErrText}, {top + "item list<any> any", api.ErrText}, {top + "input list<any> x", api.ErrText}, {top + "input i list<any>", api.ErrText}, {top + "decision list<any> y\n= 1", api.ErrText}, {deciding("needs list<any>\n= 1"), api.ErrText}, {tabled("out list<any>"), api.ErrText}, {tabled("out o : list<any>"), api.OK}, {tabled("out o : list<any> = 1"), api.ErrType}, {"model any \"\"", api.OK}, {top + "input number date", api.OK}, {tabled("out string"), api.OK},
		{tabled(out + rule), api.OK}, {tabled(out + "|=>1"), api.OK}, {tabled(out + "| =>"), api.ErrText}, {tabled(out + "|"), api.ErrText}, {tabled(out + "| 1"), api.ErrText}, {tabled(out + "| = > 1"), api.ErrText}, {tabled(out + "| => |"), api.ErrText}, {tabled(out + "| => 1 |"), api.ErrText}, {tabled(out + "| => | 1"), api.ErrText}, {tabled(out + "| | => 1"), api.ErrText}, {tabled(out + "|| => 1"), api.ErrText}, {tabled(out + "| - => 1"), api.ErrForm}, {tabled(out + "| => 1 | 2"), api.ErrForm}, {tabled(out + "| => 1 => 2"), api.ErrForm}, {tabled(out + "| => \"=>\""), api.OK}, {tabled(out + "| \" => 1"), api.ErrText}, {tabled(out + "| \"=>\""), api.ErrText}, {tabled(out + "=> 1"), api.ErrText}, {tabled("in : 1\n" + out + "| - => 1"), api.OK}, {tabled("in : 1\n" + out + "|>= 1=>1"), api.OK}, {tabled("in : 1\n" + out + "|>=1=>1"), api.ErrForm}, {tabled("in : 1\n" + out + "| - | => 1"), api.ErrText}, {tabled("in : 1\n" + out + "| | - => 1"), api.ErrText}, {tabled("in : 1\n" + out + "| - | - => 1"), api.ErrForm}, {tabled("in : 1\nin : 1\n" + out + "| - | - => 1"), api.OK}, {tabled("in : 1\nin : 1\n" + out + "| - || - => 1"), api.ErrText}, {tabled("in : 1\n" + out + "| => 1"), api.ErrForm}, {tabled("in : \"a\"\n" + out + "| \"|=>\" => \"|=>\""), api.OK}, {tabled("in : \"a\"\n" + out + "| \"\\\"|=>\" => \"\\\\\""), api.OK}, {tabled(rule + out), api.ErrText}, {tabled(out + rule + out), api.ErrText}, {tabled(out + rule + "in : 1"), api.ErrText}, {tabled(out + strings.Repeat(rule, 60)), api.OK}, {tabled(out + strings.Repeat(rule, 61)), api.ErrLong}, {tabled(out + strings.Repeat(rule, 61) + "x"), api.ErrText},
		{tabled(out + "default => 1"), api.OK}, {tabled(out + "default=>1"), api.OK}, {tabled(out + "default"), api.ErrText}, {tabled(out + "default 1"), api.ErrText}, {tabled(out + "default =>"), api.ErrText}, {tabled(out + "default => 1 | 2"), api.ErrForm}, {tabled(out + "default => 1 |"), api.ErrText}, {tabled(out + "default - => 1"), api.ErrText}, {tabled(out + "default | => 1"), api.ErrText}, {tabled(out + "default = 1"), api.ErrText}, {tabled(out + "default => => 1"), api.ErrForm}, {tabled(out + "default \"\" => 1"), api.ErrText}, {tabled(out + rule + "default => 1"), api.OK}, {tabled(out + "default => 1\n" + rule), api.ErrText}, {tabled(out + "default => 1\ndefault => 1"), api.ErrText}, {tabled("out o\nout p\ndefault => 1 | 2"), api.OK}, {tabled(out+"default => 1") + "\ndecision e z\n= 1", api.OK}, {tabled(out) + "\ndecision e z\n= 1", api.OK}, {tabled(out) + "default => x", api.ErrName}, {top + "default => 1", api.ErrText},
	} {
		if e := holdRead(t, c.b); e != c.want {
			t.Errorf("%s: %v, want %v", brief(c.b), e, c.want)
		}
	}
}

// P21.2: each word of a line where it must be, as it stands in the model.
func TestTaken(t *testing.T) {
	b := "model m \" a\\tb# \"\n" +
		"item t\tnumber:[1..2]\n" +
		"\titem\tu  list<string>\r\n" +
		"input i1 x1:t\ninput i2   x2 : u\n" +
		"  # \"\n" +
		"decision d1 y1:any\nneeds i1,i2 ,d2\n=\tif x1 = 1 then \"a  |=> b:\" else null \t\n" +
		"decision d2 y2\ntable C\nin t:1\nin:{a: 1, b: \":\"}\nout o1:t=1|2 |  1.5\nout o2\n" +
		"|1, [1..2]|-=>1|\"|\"\n| not(1) |  null\t=>  null  |   [\"=>\", \"\\\"|\"]  \ndefault=>1|\"\\\\\"\n"
	want := api.Model{Id: "m", Name: " a\tb# ",
		Items:  []api.Item{{Name: "t", Type: api.Type{Kind: api.Num}, Allowed: "[1..2]"}, {Name: "u", Type: api.Type{Kind: api.List, Of: api.Text}}},
		Inputs: []api.Input{{Id: "i1", Name: "x1", Item: "t"}, {Id: "i2", Name: "x2", Item: "u"}},
		Decisions: []api.Decision{
			{Id: "d1", Name: "y1", Item: "any", Needs: []string{"i1", "i2", "d2"}, Text: "if x1 = 1 then \"a  |=> b:\" else null"},
			{Id: "d2", Name: "y2", Table: api.Table{Policy: api.Collect, Ins: []api.Column{{Text: "1", Item: "t"}, {Text: "{a: 1, b: \":\"}"}}, Outs: []api.Column{{Text: "o1", Item: "t", Values: []string{"1", "2", "1.5"}}, {Text: "o2"}},
				Rules: []api.Rule{{Tests: []string{"1, [1..2]", "-"}, Says: []string{"1", `"|"`}}, {Tests: []string{"not(1)", "null"}, Says: []string{"null", `["=>", "\"|"]`}}}, Default: []string{"1", `"\\"`}}},
		}}
	if m, _, e := Read(b); !model.Same(m, want) || e != api.OK {
		t.Errorf("%s: %v, want %s", brief(m), e, brief(want))
	}
	holdRead(t, b)
	text := "model m \" a\\tb# \"\nitem t number : [1..2]\nitem u list<string>\ninput i1 x1 : t\ninput i2 x2 : u\n" +
		"\ndecision d1 y1 : any\n  needs i1, i2, d2\n  = if x1 = 1 then \"a  |=> b:\" else null\n" +
		"\ndecision d2 y2\n  table C\n    in t : 1\n    in : {a: 1, b: \":\"}\n    out o1 : t = 1 | 2 | 1.5\n    out o2\n" +
		"    | 1, [1..2] | -    => 1    | \"|\"\n    | not(1)    | null => null | [\"=>\", \"\\\"|\"]\n    default => 1 | \"\\\\\"\n"
	if s, e := Write(want); s != text || e != api.OK {
		t.Error(s, e)
	}
}

// P21.2: the columns of rules: as wide as what is longest in them, in bytes, up to 24; not the last one.
func TestColumns(t *testing.T) {
	text := func(n int) string { return `"` + strings.Repeat("x", n-2) + `"` }
	for n := 4; n < 40; n++ {
		for _, long := range []string{text(n), `"` + strings.Repeat("x", n%2) + strings.Repeat("é", n/2) + `"`} {
			m := api.Model{Id: "m", Decisions: []api.Decision{{Id: "d", Name: "y", Table: api.Table{Policy: api.First,
				Ins: []api.Column{{Text: "1"}, {Text: `"a"`}}, Outs: []api.Column{{Text: "o1"}, {Text: "o2"}, {Text: "o3"}},
				Rules: []api.Rule{{Tests: []string{"-", long}, Says: []string{"1", long, "1"}}, {Tests: []string{"null", `"é"`}, Says: []string{long, "2", long}}, {Tests: []string{"-", "-"}, Says: []string{text(24), "2", "3"}}}, Default: []string{text(30), text(31), text(32)}}}}}
			if e := holdModel(t, m); e != api.OK {
				t.Error(e)
			}
			s, _ := Write(m)
			pad := func(s string, w int) string { return s + strings.Repeat(" ", max(0, min(w, 24)-len(s))) }
			w := len(long)
			want := "    | -    | " + pad(long, w) + " => " + pad("1", 24) + " | " + pad(long, w) + " | 1\n" +
				"    | null | " + pad(`"é"`, w) + " => " + pad(long, 24) + " | " + pad("2", w) + " | " + long + "\n" +
				"    | -    | " + pad("-", w) + " => " + text(24) + " | " + pad("2", w) + " | 3\n    default => " + text(30) + " | "
			if !strings.Contains(s, want) {
				t.Errorf("%s has not\n%s", s, want)
			}
		}
	}
}

// P21.2: each sign.
func TestSigns(t *testing.T) {
	for i, sign := range []string{"U", "A", "P", "F", "R", "O", "C", "C+", "C<", "C>", "C#"} {
		b := top + "\ndecision d y\n  table " + sign + "\n    out o : number = 1\n"
		m, _, e := Read(b)
		if e != api.OK || m.Decisions[0].Table.Policy != i+1 {
			t.Errorf("%s: %s %v", sign, brief(m), e)
		}
		if s, e := Write(m); s != b || e != api.OK {
			t.Error(s, e)
		}
	}
}

// P21.2: a model that is not valid has no text, and the error of model.Validate.
func TestInvalid(t *testing.T) {
	for i, c := range []struct {
		change func(m *api.Model)
		want   api.Errno
	}{
		{func(m *api.Model) { m.Items = make([]api.Item, 41) }, api.ErrLong}, {func(m *api.Model) { m.Id = "" }, api.ErrForm}, {func(m *api.Model) { m.Name = "\xff" }, api.ErrForm}, {func(m *api.Model) { m.Inputs[0].Name = "a" }, api.ErrTwice}, {func(m *api.Model) { m.Inputs[0].Item = "t" }, api.ErrName}, {func(m *api.Model) { m.Decisions[0].Needs[0] = "z" }, api.ErrName}, {func(m *api.Model) { m.Decisions[0].Needs[0] = "d" }, api.ErrCycle}, {func(m *api.Model) { m.Decisions[0].Item = "string" }, api.ErrType}, {func(m *api.Model) { m.Decisions[0].Text = "x*2" }, api.ErrForm}, {func(m *api.Model) { m.Decisions[1].Table.Policy = 12 }, api.ErrForm}, {func(m *api.Model) { m.Decisions[1].Table.Outs = nil }, api.ErrForm}, {func(m *api.Model) { m.Decisions[1].Table.Rules[0].Tests = nil }, api.ErrForm}, {func(m *api.Model) { x := &m.Decisions[1].Table; x.Policy, x.Outs[0].Values = 3, nil }, api.ErrMiss}, {func(m *api.Model) { *m = api.Model{} }, api.ErrForm},
	} {
		m := exampleModel()
		c.change(&m)
		if e := holdModel(t, m); e != c.want {
			t.Errorf("case %d: %v, want %v", i, e, c.want)
		}
	}
}
