package desk

import (
	"fmt"
	"slices"
	"strings"
	"testing"

	"tariff/api"
	"tariff/bind"
	"tariff/dsl"
	"tariff/model"
)

// source makes numbers, the same ones in every test run.
type source struct{ state uint64 }

func (s *source) below(n int) int {
	s.state = s.state*6364136223846793005 + 1442695040888963407
	x := s.state
	x ^= x >> 33
	x *= 0xff51afd7ed558ccd
	return int((x ^ x>>29) >> 1 % uint64(n))
}

// pick is one of some things.
func pick[T any](s *source, list ...T) T {
	return list[s.below(len(list))]
}

// fill is a list of so many things.
func fill[T any](n int, thing func(i int) T) []T {
	var list []T
	for i := range n {
		list = append(list, thing(i))
	}
	return list
}

func mix[T any](s *source, list []T) {
	for i := range list {
		k := s.below(i + 1)
		list[i], list[k] = list[k], list[i]
	}
}

// items is item definitions of each kind.
func items() []api.Item {
	return []api.Item{{Name: "small", Type: api.Type{Kind: api.Num}, Allowed: "[0..10]"}, {Name: "tier", Type: api.Type{Kind: api.Text}, Allowed: `"a", "b"`}, {Name: "none", Type: api.Type{Kind: api.Bool}, Allowed: "not(true, false)"}, {Name: "sure", Type: api.Type{Kind: api.Bool}, Allowed: "true"}, {Name: "from", Type: api.Type{Kind: api.Date}, Allowed: `>= @"2024-01-01"`}, {Name: "order", Type: api.Type{Kind: api.Text}, Allowed: `>= "a"`}, {Name: "all", Type: api.Type{Kind: api.List, Of: api.Num}}}
}

// kindOf is the kind of the values of an item's text.
func kindOf(item string) int {
	t, _, _ := model.Type(api.Model{Items: items()}, item)
	return t.Kind
}

// literal is a random literal of a kind.
func (s *source) literal(kind int) string {
	switch kind {
	case api.Bool:
		return pick(s, "true", "false")
	case api.Num:
		return pick(s, "0", "1", "5", "10", "-2.5", "7")
	case api.Text:
		return pick(s, `"a"`, `"b"`, `""`, `"z \" é\n"`)
	}
	return pick(s, `@"0001-01-01"`, `@"2024-01-01"`, `@"2024-02-29"`, `@"9999-12-31"`)
}

// test is a random test of an item's values.
func (s *source) test(item string) string {
	kind := kindOf(item)
	if kind == api.Null || kind == api.List || s.below(5) == 0 {
		return "-"
	}
	test := s.literal(kind)
	for s.below(3) == 0 {
		test += ", " + s.literal(kind)
	}
	switch n := s.below(9); {
	case n == 0:
		return "not(" + test + ")"
	case n > 3 && (kind == api.Num || kind == api.Date):
		return pick(s, "< "+test, "<= "+test, "> "+test, ">= "+test, "["+s.literal(kind)+".."+s.literal(kind)+"]", "("+s.literal(kind)+".."+s.literal(kind)+")")
	}
	return test
}

// expression is a random one with some names in it.
func (s *source) expression(names []string) string {
	text := pick(s, "X", "X", "1", "2", `"a"`, "[X, X]", "{a: X, b: 2}", "if X = X then X else X", "X in (X, null)", `[1, {a: @"2024-02-29"}]`, "1 / 0", "null", "-1", "true", "X", `"| => : , \" \\ \n"`)
	for strings.Contains(text, "X") {
		text = strings.Replace(text, "X", pick(s, append(names, "3", `"b"`)...), 1)
	}
	return text
}

// table is a random table over some inputs.
func (s *source) table(inputs []api.Input, names []string) api.Table {
	t := api.Table{Policy: pick(s, api.Unique, api.Unique, api.Any, api.Any, api.Any, 1+s.below(11), 1+s.below(11), 1+s.below(11))}
	for range s.below(4) {
		c := api.Column{Text: "null", Item: pick(s, "number", "boolean", "tier", "")}
		if len(inputs) > 0 {
			i := pick(s, inputs...)
			c = api.Column{Text: i.Name, Item: i.Item}
		}
		t.Ins = append(t.Ins, c)
	}
	outs := 1
	if t.Policy < api.CollectSum {
		outs += s.below(2)
	}
	t.Outs = fill(outs, func(i int) api.Column {
		c := api.Column{Text: fmt.Sprint("o", i)}
		if t.Policy == api.Priority || t.Policy == api.OutOrder || s.below(3) == 0 {
			c.Values = []string{"2", `"a"`, "1", "-1"}[s.below(4):]
		}
		return c
	})
	says := func(int) string { return s.expression(names) }
	t.Rules = fill(s.below(6), func(int) api.Rule {
		return api.Rule{Tests: fill(len(t.Ins), func(i int) string { return s.test(t.Ins[i].Item) }), Says: fill(outs, says)}
	})
	if s.below(2) == 0 {
		t.Default = fill(outs, says)
	}
	return t
}

// decide gives a decision a random text or table with which the model is valid.
func (s *source) decide(m api.Model, d *api.Decision, inputs []api.Input, names []string) {
	for {
		d.Item, d.Text, d.Table = pick(s, "", "", "any", "number", "list<any>", "small"), "", api.Table{}
		if s.below(3) == 0 {
			d.Text = s.expression(names)
		} else {
			d.Table = s.table(inputs, names)
		}
		if model.Validate(m) == api.OK {
			return
		}
	}
}

// model is a random valid model. Its decisions don't come in the order in which they need one another.
func (s *source) model() api.Model {
	m := api.Model{Id: pick(s, "m", "shop"), Name: pick(s, "", "Prices", " a\r\n\t\"'<&>é"), Items: items()}
	m.Inputs = fill(s.below(5), func(i int) api.Input {
		return api.Input{Id: fmt.Sprint("i", i), Name: fmt.Sprint("x", i), Item: pick(s, "boolean", "number", "string", "date", "small", "small", "tier", "sure", "from", "none", "order", "all", "")}
	})
	for i := range s.below(6) {
		d := api.Decision{Id: fmt.Sprint("d", i), Name: fmt.Sprint("y", i)}
		var names []string
		var inputs []api.Input
		for _, x := range m.Inputs {
			if s.below(3) > 0 {
				d.Needs, names, inputs = append(d.Needs, x.Id), append(names, x.Name), append(inputs, x)
			}
		}
		for _, x := range m.Decisions {
			if s.below(3) == 0 {
				d.Needs, names = append(d.Needs, x.Id), append(names, x.Name)
			}
		}
		m.Decisions = append(m.Decisions, d)
		s.decide(m, &m.Decisions[i], inputs, names)
	}
	mix(s, m.Decisions)
	return m
}

// inputs is the text of a random context of a model's inputs, most of them of the right kind.
func (s *source) inputs(m api.Model) string {
	var list []string
	for _, i := range m.Inputs {
		kind := kindOf(i.Item)
		switch {
		case s.below(12) == 0 || kind == api.Null:
			kind = 1 + s.below(4)
		case kind == api.List:
			list = append(list, i.Name+": "+pick(s, "[1, 2]", "[]", "[null]"))
			continue
		}
		if s.below(8) > 0 {
			list = append(list, i.Name+": "+s.literal(kind))
		}
	}
	return "{" + strings.Join(list, ", ") + "}"
}

// line is a random line, most often a command.
func (s *source) line(m api.Model) string {
	id := pick(s, "d0", "d1", "d2", "d3", "d4", "z", "i0")
	if len(m.Decisions) > 0 && s.below(10) > 0 {
		id = pick(s, m.Decisions...).Id
	}
	text := s.inputs(m)
	if s.below(20) == 0 {
		text = pick(s, "{", "1", "[]", "null", "{y0: 1}", "{x0:1}", "", "{x0: 1} ")
	}
	line := pick(s, "xml", "dsl", "again xml", "again dsl", "plan", "scope ID", "eval ID {}", "eval ID {}", "all {}", "all {}", "hits ID {}", "hits ID {}", "gaps ID", "gaps ID", "twice ID", "twice ID", "lines ID", "lines ID", "count ID", "count ID", "again", "gaps", "all", "hits ID", "scope ID {}", "xml ID", "what")
	line = strings.ReplaceAll(strings.Replace(line, "ID", id, 1), "{}", text)
	if s.below(6) == 0 {
		line = pick(s, " ", "\t", "") + strings.Replace(line, " ", pick(s, "  ", "\t", " \t"), s.below(3)) + pick(s, "", " ", "\t ")
	}
	return line
}

// sort is what an answer is like, in short.
func sort(line, answer string) string {
	word, _, _ := strings.Cut(strings.Trim(line, " \t"), " ")
	word, _, _ = strings.Cut(word, "\t")
	switch {
	case strings.HasPrefix(answer, "error "):
		return answer
	case answer == "" || answer == "complete" || answer == "apart" || answer == "same":
		return word + " " + answer
	case strings.HasSuffix(answer, "all"):
		return word + " all"
	}
	return word
}

// P27.1: random commands for random models.
func TestRandom(t *testing.T) {
	s := &source{state: 271}
	seen := map[string]int{}
	for range 400 {
		m := s.model()
		for range 20 {
			line := s.line(m)
			seen[sort(line, holdCommand(t, m, line))]++
		}
	}
	for _, want := range []string{"xml", "dsl", "again same", "plan", "plan ", "scope", "scope ", "eval", "all", "all ", "hits", "hits ", "gaps", "gaps all", "gaps complete", "twice", "twice all", "twice apart", "lines", "lines ", "count", "count ", "error 1", "error 4", "error 5", "error 8", "error 9", "error 14", "error 15", "error 16", "error 18"} {
		if seen[want] < 3 {
			t.Error(want, seen[want])
		}
	}
}

// P27.2, P27.3, P5: commands one after another answer what they answer alone, whatever was written and read
// before, and whether the model comes as a text or as a document.
func TestRandomPlay(t *testing.T) {
	s := &source{state: 272}
	for range 150 {
		m := s.model()
		text, _ := dsl.Write(m)
		doc, _ := bind.WriteXML(m)
		lines := fill(s.below(51), func(int) string {
			if s.below(3) == 0 {
				return pick(s, "again xml", "again dsl", "xml", "dsl")
			}
			return s.line(m)
		})
		want := fill(len(lines), func(i int) string { return wantAnswer(m, lines[i]) })
		for _, b := range []string{text, doc} {
			if answers, e := Play(b, lines); !slices.Equal(answers, want) || e != api.OK {
				t.Errorf("%s%q: %q %v, want %q", text, lines, answers, e, want)
			}
		}
		for i, line := range lines {
			if strings.HasPrefix(line, "again ") && len(strings.Fields(line)) == 2 && want[i] != "same" && want[i] != "error 5" {
				t.Error(line, want[i])
			}
		}
	}
}

// P27.3, P5: a model that is taken through each sequence of up to four commands again is the same, and so is
// each of its exports.
func TestAgain(t *testing.T) {
	s := &source{state: 273}
	models := append(fill(20, func(int) api.Model { return s.model() }), read(t, shop), read(t, example), api.Model{Id: "m"})
	for _, m := range models {
		text, _ := dsl.Write(m)
		doc, _ := bind.WriteXML(m)
		for n := range 1 << 4 {
			now := m
			for k := range 4 {
				var answer string
				var e api.Errno
				answer, now, e = Command(now, pick(s, "again ", "again\t ")+[]string{"xml", "dsl"}[n>>k&1])
				if answer != "same" || e != api.OK {
					t.Errorf("%s%q %v", text, answer, e)
				}
			}
			again, _, e := Command(now, "dsl")
			againDoc, _, f := Command(now, "xml")
			if !model.Same(now, m) || again != text || againDoc != doc || e != api.OK || f != api.OK {
				t.Errorf("%s%s %v %v", text, again, e, f)
			}
		}
	}
}

// P1: lines and documents of anything.
func TestAnything(t *testing.T) {
	s := &source{state: 274}
	m := read(t, shop)
	for range 3000 {
		line := ""
		for range s.below(7) {
			line += pick(s, "xml", "dsl", "again", "plan", "eval", "all", "hits", "gaps", " ", " ", "\t", "two", "d1", "{}", "{price: 4}", "\n", "é", "\xff", "x")
		}
		want, fault := "", api.OK
		if strings.Contains(line, "\xff") {
			fault = api.ErrForm
		} else {
			want = wantAnswer(m, line)
		}
		answer, now, e := Command(m, line)
		if answer != want || e != fault || model.Same(now, m) != (e == api.OK) {
			t.Errorf("%q: %q %v, want %q %v", line, answer, e, want, fault)
		}
		b := pick(s, "", " ", "\n<", "<") + pick(s, example, exampleDocument, `model m ""`, "<definitions/>", line)
		from := s.below(len(b) + 1)
		b = b[:from] + pick(s, "", "<", ">", "\"", "x", "\xff", "\n", "d") + b[min(len(b), from+s.below(3)):]
		loaded, e := Load(b)
		if e == api.OK && model.Validate(loaded) != api.OK || e != api.OK && !model.Same(loaded, api.Model{}) {
			t.Errorf("%q: %v", b, e)
		}
		if answers, f := Play(b, []string{"plan", "again dsl"}); f != e || len(answers) != 2 && e == api.OK || len(answers) > 0 && e != api.OK {
			t.Errorf("%q: %v %v", b, answers, f)
		}
	}
}
