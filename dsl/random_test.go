package dsl

import (
	"slices"
	"strconv"
	"strings"
	"testing"

	"tariff/api"
	"tariff/bind"
	"tariff/model"
)

// source makes numbers, the same ones in every test run.
type source struct{ state uint64 }

func (s *source) below(n int) int {
	s.state = s.state*6364136223846793005 + 1442695040888963407
	x := s.state
	x ^= x >> 33
	x *= 0xff51afd7ed558ccd
	return int((x ^ x>>29) >> 1 % uint64(n))
}

func (s *source) pick(list ...string) string {
	return list[s.below(len(list))]
}

// fill is a list of so many things.
func fill[T any](n int, thing func(i int) T) []T {
	var list []T
	for i := range n {
		list = append(list, thing(i))
	}
	return list
}

func numbered(name string, n int) string {
	return name + strconv.Itoa(n)
}

// quotes is a random text in quotes that has in it what has a meaning outside of quotes.
func (s *source) quotes() string {
	text := ""
	for range s.below(12) {
		text += s.pick("|", "=>", "=", ":", ",", "#", " ", `\"`, `\\`, `\n`, `\t`, "é", "a", "table", "€€€€")
	}
	return `"` + text + `"`
}

func (s *source) item(items int) string {
	if items > 0 && s.below(3) == 0 {
		return numbered("t", s.below(items))
	}
	return s.pick("", "", "any", "number", "list<string>")
}

// expression is a random one that is of no type in particular, or of that of the item.
func (s *source) expression(item string, names []string) string {
	switch item {
	case "", "any":
		return s.pick(append(names, "1", "null", s.quotes(), `[1, {a: @"2024-02-29"}]`, `{b: `+s.quotes()+`, c: 2 >= 1}`, "if 1 <= 2 then 1 != 2 else 2 in (> 1, [1..2))", "1 = 2")...)
	case "number":
		return s.pick("1", "-2", "0.5 * 3", "null", "length("+s.quotes()+")", "123456789.123456789")
	}
	return "null"
}

// test is a random test that may be asked of anything.
func (s *source) test() string {
	return s.pick("-", "null", "not(null)", "-", "null, null, null, null", "not(null, null, null, null, null, null)")
}

func (s *source) table(items int, names []string) api.Table {
	t := api.Table{Policy: 1 + s.below(11)}
	t.Ins = fill(s.below(4), func(int) api.Column {
		item := s.item(items)
		return api.Column{Text: s.expression(item, names), Item: item}
	})
	n := 1
	if t.Policy < api.CollectSum {
		n += s.below(3)
	}
	t.Outs = fill(n, func(i int) api.Column {
		c := api.Column{Text: numbered("o", i), Item: s.pick("", "number")}
		if i == 0 && (t.Policy == api.Priority || t.Policy == api.OutOrder) || s.below(3) == 0 {
			c.Values = []string{"1", "-2", "0"}[s.below(3):]
			if c.Item == "" && s.below(2) == 0 {
				c.Values = append(slices.Clone(c.Values), s.quotes())
			}
		}
		return c
	})
	says := func() []string {
		return fill(n, func(i int) string { return s.expression(t.Outs[i].Item, names) })
	}
	t.Rules = fill(s.below(5), func(int) api.Rule {
		return api.Rule{Tests: fill(len(t.Ins), func(i int) string {
			if t.Ins[i].Item == "" && t.Ins[i].Text == "null" && s.below(2) == 0 {
				return s.pick("< 10", ">= 10, [1..2]", s.quotes(), "not("+s.quotes()+")")
			}
			return s.test()
		}), Says: says()}
	})
	if s.below(2) == 0 {
		t.Default = says()
	}
	return t
}

// model is a random valid model.
func (s *source) model() api.Model {
	types := []api.Type{{}, {Kind: api.Num}, {Kind: api.Text}, {Kind: api.List, Of: api.Date}, {Kind: api.Bool}, {Kind: api.List}}
	m := api.Model{Id: s.pick("m", "_", "shop"), Name: s.pick("", "n", " a\r\n\t\"'<&>é", "# \\| => : =", "\\", "\"\"")}
	m.Items = fill(s.below(4), func(i int) api.Item {
		it := api.Item{Name: numbered("t", i), Type: types[s.below(len(types))], Allowed: s.pick("", "-")}
		if it.Type.Kind == api.Text && s.below(2) == 0 {
			it.Allowed = s.quotes() + ", < " + s.quotes()
		}
		return it
	})
	m.Inputs = fill(s.below(4), func(i int) api.Input {
		return api.Input{Id: numbered("i", i), Name: numbered("x", i), Item: s.item(len(m.Items))}
	})
	for i := range s.below(5) {
		d := api.Decision{Id: numbered("d", i), Name: numbered("y", i)}
		var names []string
		need := func(id, name string) {
			if s.below(2) == 0 {
				d.Needs, names = append(d.Needs, id), append(names, name)
			}
		}
		for _, o := range m.Decisions {
			need(o.Id, o.Name)
		}
		for _, o := range m.Inputs {
			need(o.Id, o.Name)
		}
		if s.below(3) == 0 {
			d.Item = s.item(len(m.Items))
			d.Text = s.expression(d.Item, names)
		} else {
			d.Item = s.pick("", "any")
			d.Table = s.table(len(m.Items), names)
		}
		m.Decisions = append(m.Decisions, d)
	}
	for i := range m.Decisions {
		k := s.below(i + 1)
		m.Decisions[i], m.Decisions[k] = m.Decisions[k], m.Decisions[i]
	}
	return m
}

// text is the text of a random model.
func (s *source) text(t *testing.T) string {
	b, e := Write(s.model())
	if e != api.OK {
		t.Fatal(e)
	}
	return b
}

// P2, P21.2, P21.3: random models.
func TestRandomModels(t *testing.T) {
	s := &source{state: 211}
	for range 6000 {
		m := s.model()
		if e := holdModel(t, m); e != api.OK {
			t.Errorf("%s: %v", brief(m), e)
		}
	}
}

// P2, P5: writing and reading as text and as a document, in turns, changes neither the model nor the bytes.
func TestBothWays(t *testing.T) {
	s := &source{state: 216}
	for range 500 {
		m := s.model()
		text, _ := Write(m)
		doc, _ := bind.WriteXML(m)
		now := m
		for range 6 {
			var e api.Errno
			if s.below(2) == 0 {
				now, _, e = Read(text)
			} else {
				now, _, e = bind.ReadXML(doc)
			}
			again, e2 := Write(now)
			againDoc, e3 := bind.WriteXML(now)
			if !model.Same(now, m) || e != api.OK || again != text || e2 != api.OK || againDoc != doc || e3 != api.OK {
				t.Errorf("%s: %s %v %v %v", brief(m), brief(now), e, e2, e3)
			}
		}
	}
}

// loose is a text with other blanks, blank lines and remarks, that says the same.
func (s *source) loose(b string) string {
	out := ""
	blanks := func() string {
		return strings.Repeat(s.pick(" ", "\t", "\r", " \t"), s.below(3))
	}
	for line := range strings.Lines(b) {
		line = strings.TrimSuffix(line, "\n")
		for s.below(4) == 0 {
			out += blanks() + s.pick("", "#", "# decision", "#\"", "# é |") + blanks() + "\n"
		}
		// Blanks in quotes mean something, and so do those within expressions for what is canonical.
		if at := strings.Index(blot(line), "=>"); at >= 0 {
			line = line[:at] + blanks() + "=>" + blanks() + line[at+2:]
		} else if at := strings.Index(blot(line), ":"); at >= 0 && !strings.Contains(blot(line[:at]), "=") {
			line = line[:at] + blanks() + ":" + blanks() + line[at+1:]
		}
		out += blanks() + line + blanks() + "\n"
	}
	return out + s.pick("", "# at the end", "\t", "\n\n")
}

// P21.2: comments, blank lines and blanks between what a line consists of change nothing.
func TestLoose(t *testing.T) {
	s := &source{state: 212}
	for range 3000 {
		b := s.text(t)
		other := s.loose(b)
		if e := holdRead(t, other); e != api.OK {
			t.Errorf("%s: %v", other, e)
		}
		m, _, _ := Read(other)
		if again, _ := Write(m); again != b {
			t.Errorf("%s is written as\n%s", other, again)
		}
	}
}

// change changes something in a text.
func (s *source) change(b string) string {
	lines := strings.SplitAfter(b, "\n")
	k, o := s.below(len(lines)), s.below(len(lines))
	at := s.below(len(b) + 1)
	end := min(len(b), at+s.below(4))
	switch s.below(9) {
	case 0:
		return strings.Join(slices.Delete(lines, k, k+1), "")
	case 1:
		return strings.Join(slices.Insert(lines, o, lines[k]), "")
	case 2:
		lines[k], lines[o] = lines[o], lines[k]
		return strings.Join(lines, "")
	case 3:
		return b[:at] + b[end:]
	case 4:
		return b[:at] + string([]byte{byte(s.below(256))}) + b[end:]
	case 5:
		places := []int{0}
		for i, c := range b {
			if strings.ContainsRune(" \n", c) {
				places = append(places, i, i+1)
			}
		}
		at = places[s.below(len(places))]
		end = at
	case 6:
		if s.below(2) == 0 {
			return strings.Replace(b, s.pick("table A", "table F", "table U"), s.pick("table P", "table O", "table C+"), 3)
		}
		return strings.Replace(b, s.pick("number", "any", "x0", "y0", "null"), s.pick("string", "boolean", "y1", "z"), 1+s.below(3))
	}
	return b[:at] + s.pick("|", "=>", "=", ":", ",", `"`, `\`, " ", "\n", "#", "\r", "\t", "in", "out", "item", "input", "needs", "table", "default", "decision", "model", "a", "1", "if", "any", "list<date>", "\n| => 1\n", "\n= 1\n", "\ntable U\nout a\n", "\nneeds x0\n", " : any", ` = 1 | "a"`) + b[end:]
}

// P2, P21.2, P21.4: texts of random models with something changed.
func TestRandomTexts(t *testing.T) {
	s := &source{state: 213}
	count := map[api.Errno]int{}
	for range 20000 {
		b := s.text(t)
		for range 1 + s.below(3) {
			b = s.change(b)
		}
		count[holdRead(t, b)]++
	}
	for _, e := range []api.Errno{api.OK, api.ErrForm, api.ErrText, api.ErrName, api.ErrType, api.ErrTwice, api.ErrMiss} {
		if count[e] < 20 {
			t.Error(e, count)
		}
	}
}

// P1, P21.4: texts of anything.
func TestAnything(t *testing.T) {
	s := &source{state: 214}
	for range 20000 {
		b := s.pick("", "model m \"\"\n", "model m \"\"\ndecision d y\n", "model m \"\"\ndecision d y\ntable F\nout o\n")
		for range s.below(25) {
			b += s.pick("model", "item", "input", "decision", "needs", "=", "table", "in", "out", "|", "default", "=>", ":", ",", `"`, `""`, "\\", "\n", "\n", " ", " ", "a", "b", "1", "U", "C+", "#", "any", "\xff", "\x00")
		}
		holdRead(t, b)
	}
}
