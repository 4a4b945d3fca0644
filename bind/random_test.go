package bind

import (
	"slices"
	"strconv"
	"strings"
	"testing"

	"tariff/api"
	"tariff/model"
)

// source makes numbers, the same ones in every test run.
type source struct{ state uint64 }

func (s *source) below(n int) int {
	s.state = s.state*6364136223846793005 + 1442695040888963407
	x := s.state
	x ^= x >> 33
	x *= 0xff51afd7ed558ccd
	return int((x ^ x>>29) >> 1 % uint64(n))
}

func (s *source) pick(list ...string) string {
	return list[s.below(len(list))]
}

// fill is a list of so many things.
func fill[T any](n int, thing func(i int) T) []T {
	var list []T
	for i := range n {
		list = append(list, thing(i))
	}
	return list
}

func numbered(name string, n int) string {
	return name + strconv.Itoa(n)
}

func (s *source) item(items int) string {
	if items > 0 && s.below(3) == 0 {
		return numbered("t", s.below(items))
	}
	return s.pick("", "", "any", "number", "list<string>")
}

// expression is a random one that is of no type in particular, or of that of the item.
func (s *source) expression(item string, names []string) string {
	if item == "" || item == "any" {
		return s.pick(append(names, "1", "null", `"<&>\"\n\\"`, "[1, {a: @\"2024-02-29\"}]", "if 1 < 2 then 1 else 2")...)
	}
	if item == "number" {
		return s.pick("1", "-2", "0.5 * 3", "null")
	}
	return "null"
}

func (s *source) column(text, item string) api.Column {
	return api.Column{Text: text, Item: item}
}

func (s *source) table(items int, names []string) api.Table {
	t := api.Table{Policy: 1 + s.below(11)}
	t.Ins = fill(s.below(3), func(int) api.Column {
		item := s.item(items)
		return s.column(s.expression(item, names), item)
	})
	n := 1
	if t.Policy < api.CollectSum {
		n += s.below(3)
	}
	t.Outs = fill(n, func(i int) api.Column {
		c := s.column(numbered("o", i), s.pick("", "number"))
		if i == 0 && (t.Policy == api.Priority || t.Policy == api.OutOrder) || s.below(3) == 0 {
			c.Values = []string{"1", "-2", "0"}[s.below(3):]
		}
		return c
	})
	says := func() []string {
		return fill(n, func(i int) string { return s.expression(t.Outs[i].Item, names) })
	}
	t.Rules = fill(s.below(4), func(int) api.Rule {
		return api.Rule{Tests: fill(len(t.Ins), func(int) string { return s.pick("-", "null", "not(null)") }), Says: says()}
	})
	if s.below(2) == 0 {
		t.Default = says()
	}
	return t
}

// model is a random valid model.
func (s *source) model() api.Model {
	types := []api.Type{{}, {Kind: api.Num}, {Kind: api.Text}, {Kind: api.List, Of: api.Date}, {Kind: api.Bool}, {Kind: api.List}}
	m := api.Model{Id: s.pick("m", "_", "shop"), Name: s.pick("", "n", " a\r\n\t\"'<&>é", "]]>")}
	m.Items = fill(s.below(4), func(i int) api.Item {
		return api.Item{Name: numbered("t", i), Type: types[s.below(len(types))], Allowed: s.pick("", "-", "-")}
	})
	m.Inputs = fill(s.below(4), func(i int) api.Input {
		return api.Input{Id: numbered("i", i), Name: numbered("x", i), Item: s.item(len(m.Items))}
	})
	for i := range s.below(5) {
		d := api.Decision{Id: numbered("d", i), Name: numbered("y", i)}
		var names []string
		need := func(id, name string) {
			if s.below(2) == 0 {
				d.Needs, names = append(d.Needs, id), append(names, name)
			}
		}
		for _, o := range m.Decisions {
			need(o.Id, o.Name)
		}
		for _, o := range m.Inputs {
			need(o.Id, o.Name)
		}
		if s.below(3) == 0 {
			d.Item = s.item(len(m.Items))
			d.Text = s.expression(d.Item, names)
		} else {
			d.Item = s.pick("", "any")
			d.Table = s.table(len(m.Items), names)
		}
		m.Decisions = append(m.Decisions, d)
	}
	for i := range m.Decisions {
		k := s.below(i + 1)
		m.Decisions[i], m.Decisions[k] = m.Decisions[k], m.Decisions[i]
	}
	return m
}

// tags are the names of the table, and one that isn't there.
func tags() []string {
	list := []string{"other"}
	for line := range strings.Lines(elements) {
		if c := strings.Split(line, "|"); len(c) == 5 {
			list = append(list, cells(strings.TrimSuffix(strings.TrimSpace(c[1]), " (the first one)"))...)
		}
	}
	return list
}

// least is the least element of a name that has no faults, with a number in its names.
func least(name string, n int) *node {
	e := &node{name: name}
	add := func(kids ...*node) { e.kids = kids }
	set := func(attrs ...string) {
		for i := 0; i < len(attrs); i += 2 {
			e.attrs = append(e.attrs, api.Attr{Name: attrs[i], Value: attrs[i+1]})
		}
	}
	switch name {
	case "itemDefinition":
		set("name", numbered("s", n), "typeRef", "any")
	case "inputData":
		set("id", numbered("j", n), "name", numbered("k", n))
	case "variable":
		set("typeRef", "any")
	case "decision":
		set("id", numbered("e", n), "name", numbered("f", n))
		add(least("literalExpression", 0))
	case "informationRequirement":
		add(least("requiredInput", n))
	case "requiredInput":
		set("href", numbered("#i", n+1))
	case "requiredDecision":
		set("href", numbered("#d", n+1))
	case "decisionTable":
		set("hitPolicy", "FIRST")
		add(least("output", n))
	case "output":
		set("name", numbered("p", n))
	case "input":
		add(least("inputExpression", 0))
	case "rule":
		add(least("outputEntry", 0))
	case "text":
		e.text = numbered("", n+1)
	case "allowedValues", "literalExpression", "inputExpression", "outputValues", "defaultOutputEntry", "inputEntry", "outputEntry":
		add(least("text", 0))
	}
	return e
}

// eachElement hands the sample's tree to a check, with one element of each name to be changed.
func eachElement(t *testing.T, check func(top, n *node)) {
	for _, name := range tags()[1:] {
		top := nest(mustTree(t, sample()))
		list := below(top)
		i := slices.IndexFunc(list, func(n *node) bool { return n.name == name })
		if i < 0 {
			t.Fatal(name)
		}
		check(top, list[i])
	}
}

// P20.1: each element with each short list of elements in it.
func TestEachContent(t *testing.T) {
	count := map[api.Errno]int{}
	eachElement(t, func(top, n *node) {
		_, contents := row(n.name)
		names := []string{"other", "text", "variable", "definitions"}
		for _, c := range contents {
			names = append(names, strings.Split(strings.TrimRight(c, "?*+"), " or ")...)
		}
		slices.Sort(names)
		names = slices.Compact(names)
		n.text = ""
		var grow func(kids []*node)
		grow = func(kids []*node) {
			n.kids = kids
			count[hold(t, flat(top))]++
			for _, name := range names {
				if len(kids) < 3 || len(kids) < 4 && len(names) < 7 {
					grow(append(kids[:len(kids):len(kids)], least(name, len(kids))))
				}
			}
		}
		grow(nil)
	})
	if count[api.OK] < 40 || count[api.ErrMiss] < 2000 || count[api.ErrExtra] < 5000 || count[api.ErrName] < 50 {
		t.Error(count)
	}
}

// P20.1: each element with each short list of attributes, and with characters.
func TestEachAttribute(t *testing.T) {
	pool := []api.Attr{{Name: "xmlns", Value: "urn:tariff:dmn"}, {Name: "xmlns", Value: "u"}, {Name: "id", Value: "m"}, {Name: "id", Value: "i1"}, {Name: "name", Value: "n"}, {Name: "typeRef", Value: "number"}, {Name: "typeRef"}, {Name: "typeRef", Value: "tier"}, {Name: "typeRef", Value: "Any"}, {Name: "href", Value: "#i1"}, {Name: "href", Value: "#d2"}, {Name: "href", Value: "i1"}, {Name: "href"}, {Name: "hitPolicy", Value: "FIRST"}, {Name: "hitPolicy", Value: "COLLECT"}, {Name: "hitPolicy"}, {Name: "aggregation", Value: "MIN"}, {Name: "aggregation"}, {Name: "other"}, {Name: "Id", Value: "m"}}
	count := map[api.Errno]int{}
	eachElement(t, func(top, n *node) {
		for _, text := range []string{" ", "\n", "x", "1", ""} {
			old := n.text
			n.text = text
			count[hold(t, flat(top))]++
			if len(n.kids) > 0 {
				kids := n.kids
				n.kids = nil
				count[hold(t, flat(top))]++
				n.kids = kids
			}
			n.text = old
		}
		attrs := n.attrs
		for _, a := range pool {
			n.attrs = append(attrs[:len(attrs):len(attrs)], a)
			count[hold(t, flat(top))]++
			n.attrs = []api.Attr{a}
			count[hold(t, flat(top))]++
			for _, b := range pool {
				n.attrs = []api.Attr{a, b}
				count[hold(t, flat(top))]++
				if n.name == "definitions" {
					n.attrs = []api.Attr{a, {Name: "name"}, b}
					count[hold(t, flat(top))]++
				}
			}
		}
		for i := range attrs {
			n.attrs = slices.Delete(slices.Clone(attrs), i, i+1)
			count[hold(t, flat(top))]++
		}
		n.attrs = slices.Clone(attrs)
		slices.Reverse(n.attrs)
		if e := hold(t, flat(top)); e != api.OK {
			t.Error(n.name, e)
		}
	})
	if count[api.OK] < 20 || count[api.ErrMiss] < 500 || count[api.ErrExtra] < 500 || count[api.ErrName] < 10 || count[api.ErrText] < 100 || count[api.ErrForm] < 500 {
		t.Error(count)
	}
}

// change changes something in a tree.
func (s *source) change(top *node) {
	list := below(top)
	n := list[s.below(len(list))]
	var k int
	if len(n.kids) > 0 {
		k = s.below(len(n.kids))
	}
	switch kids := len(n.kids); s.below(9) {
	case 0:
		if kids > 0 {
			n.kids = slices.Delete(n.kids, k, k+1)
		}
	case 1:
		if kids > 0 {
			n.kids = append(n.kids, n.kids[k])
		}
	case 2:
		if kids > 0 {
			o := s.below(kids)
			n.kids[o], n.kids[k] = n.kids[k], n.kids[o]
		}
	case 3:
		n.kids = slices.Insert(n.kids, k, least(s.pick(tags()...), s.below(3)))
	case 4:
		n.name = s.pick(tags()...)
	case 5:
		n.attrs = append(n.attrs, api.Attr{Name: s.pick("id", "name", "typeRef", "href", "aggregation", "x"), Value: s.pick("", "x", "d0", "number", "SUM")})
	case 6, 7:
		if len(n.attrs) > 0 {
			i := s.below(len(n.attrs))
			if s.below(3) == 0 {
				n.attrs = slices.Delete(n.attrs, i, i+1)
			} else {
				n.attrs[i].Value = s.pick("", "x0", "y0", "i0", "#i0", "#d0", "#d1", "d1", "t0", "number", "COLLECT", "FIRST", "PRIORITY", "MIN", "urn:tariff:dmn", "o0", "any")
			}
		}
	case 8:
		n.text = s.pick("", " ", "1", "null", "-", "x0", `"a"`)
	}
}

// P2, P20.1, P20.2, P20.3: random models, and their trees with something changed.
func TestRandom(t *testing.T) {
	s := &source{state: 20}
	count := map[api.Errno]int{}
	for range 2000 {
		m := s.model()
		if e := holdModel(t, m); e != api.OK {
			t.Errorf("%s: %v", brief(m), e)
			continue
		}
		for range 4 {
			top := nest(mustTree(t, m))
			for range 1 + s.below(3) {
				s.change(top)
			}
			count[hold(t, flat(top))]++
		}
	}
	for _, e := range []api.Errno{api.OK, api.ErrForm, api.ErrText, api.ErrName, api.ErrType, api.ErrTwice, api.ErrMiss, api.ErrExtra} {
		if count[e] < 10 {
			t.Error(count)
		}
	}
}

// P20.1, P20.2: models that are not valid have no tree, and the error of model.Validate.
func TestInvalid(t *testing.T) {
	for i, c := range []struct {
		change func(m *api.Model)
		want   api.Errno
	}{
		{func(m *api.Model) { m.Items = make([]api.Item, 41) }, api.ErrLong}, {func(m *api.Model) { m.Id = "" }, api.ErrForm}, {func(m *api.Model) { m.Inputs[0].Name = "y" }, api.ErrTwice}, {func(m *api.Model) { m.Inputs[0].Item = "t" }, api.ErrName}, {func(m *api.Model) { m.Decisions[0].Needs[0] = "z" }, api.ErrName}, {func(m *api.Model) { m.Decisions[0].Needs[0] = "d" }, api.ErrCycle}, {func(m *api.Model) { m.Decisions[0].Item = "string" }, api.ErrType}, {func(m *api.Model) {
			m.Decisions[0].Text, m.Decisions[0].Table = "", api.Table{Policy: api.OutOrder, Outs: []api.Column{{Text: "o"}}}
		}, api.ErrMiss}, {func(m *api.Model) { m.Decisions[0].Table.Policy = 1 }, api.ErrForm}, {func(m *api.Model) { m.Decisions[0].Text, m.Decisions[0].Table.Policy = "", 12 }, api.ErrForm},
	} {
		m := exampleModel()
		c.change(&m)
		if e := holdModel(t, m); e != c.want {
			t.Errorf("case %d: %v, want %v", i, e, c.want)
		}
	}
}

// P2, P20.2, P20.4: documents with some bytes changed, and blanks and comments between what they consist of.
func TestBytes(t *testing.T) {
	s := &source{state: 21}
	count := map[api.Errno]int{}
	for range 3000 {
		doc, e := WriteXML(s.model())
		if e != api.OK {
			t.Fatal(e)
		}
		spaced := strings.ReplaceAll(strings.ReplaceAll(doc, "\n", "<!-- -->\r\n\t"), "/>", "\n/>")
		if e := holdRead(t, spaced); e != api.OK {
			t.Errorf("%s: %v", spaced, e)
		}
		if s.below(2) == 0 {
			doc = strings.Replace(doc, s.pick("#i", "d0", "i0", "name=", "typeRef", "number", "text>1<", "defaultOutputEntry", "any"), s.pick("#d", "i0", "i", "text", "string", "text>x<", "requiredInput"), 1+s.below(3))
		}
		b := []byte(doc)
		for range s.below(3) {
			at := s.below(len(b) - 1)
			switch s.below(3) {
			case 0:
				b[at] = byte(s.below(256))
			case 1:
				b = slices.Delete(b, at, min(len(b)-1, at+1+s.below(60)))
			case 2:
				b = slices.Insert(b, at, []byte(s.pick("<text>", "</text>", " ", "x", "&#10;", "<!-- -->", "<rule/>", "\"", " name='n'"))...)
			}
		}
		count[holdRead(t, string(b))]++
	}
	for _, e := range []api.Errno{api.OK, api.ErrForm, api.ErrText, api.ErrName, api.ErrMiss, api.ErrExtra} {
		if count[e] < 20 {
			t.Error(count)
		}
	}
}

// P1: trees as large as they may be.
func TestLarge(t *testing.T) {
	top := least("definitions", 0)
	top.attrs = []api.Attr{{Name: "xmlns", Value: api.Space}, {Name: "id", Value: "m"}, {Name: "name"}}
	d := least("decision", 0)
	for i := range 6000 {
		top.kids = append(top.kids, least("inputData", i))
		n := least("informationRequirement", i)
		n.kids[0].attrs[0].Value = numbered("#j", 5999-i)
		d.kids = append([]*node{n}, d.kids...)
	}
	slices.Reverse(d.kids[:6000])
	top.kids = append(top.kids, d)
	if m, _, e := FromTree(flat(top)); e != api.ErrLong || !model.Same(m, api.Model{}) {
		t.Error(e)
	}
	d.kids[3000].kids[0].attrs[0].Value = "#i0"
	if _, at, e := FromTree(flat(top)); e != api.ErrName || at <= 6000 {
		t.Error(at, e)
	}
	table := least("decisionTable", 0)
	table.kids = fill(9000, func(i int) *node { return least("output", i) })
	table.kids[8999].kids = []*node{least("defaultOutputEntry", 0)}
	top.kids = []*node{{name: "decision", attrs: d.attrs, kids: []*node{table}}}
	if _, _, e := FromTree(flat(top)); e != api.ErrMiss {
		t.Error(e)
	}
}
