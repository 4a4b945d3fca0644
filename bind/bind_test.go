package bind

import (
	"slices"
	"strings"
	"testing"

	"tariff/api"
	"tariff/model"
)

// document of the chapter's first example.
const example = `<?xml version="1.0" encoding="UTF-8"?>
<definitions xmlns="urn:tariff:dmn" id="m" name="Prices">
  <inputData id="i" name="x">
    <variable typeRef="number"/>
  </inputData>
  <decision id="d" name="y">
    <informationRequirement>
      <requiredInput href="#i"/>
    </informationRequirement>
    <literalExpression>
      <text>x * 2</text>
    </literalExpression>
  </decision>
</definitions>
`

func exampleModel() api.Model {
	return api.Model{Id: "m", Name: "Prices", Inputs: []api.Input{{Id: "i", Name: "x", Item: "number"}}, Decisions: []api.Decision{{Id: "d", Name: "y", Needs: []string{"i"}, Text: "x * 2"}}}
}

// sample is a valid model that has something of everything.
func sample() api.Model {
	text, number := api.Type{Kind: api.Text}, api.Type{Kind: api.Num}
	return api.Model{Id: "shop", Name: "Prices & \"more\"\r\n\t<é>",
		Items:  []api.Item{{Name: "tier", Type: text, Allowed: `"a", "b<&>\"\n"`}, {Name: "tags", Type: api.Type{Kind: api.List, Of: api.Text}}, {Name: "amount", Type: number, Allowed: "[0..1000]"}},
		Inputs: []api.Input{{Id: "i1", Name: "x", Item: "number"}, {Id: "i2", Name: "level", Item: "tier"}, {Id: "i3", Name: "what"}},
		Decisions: []api.Decision{
			{Id: "d1", Name: "rate", Item: "amount", Needs: []string{"d2", "i2"}, Table: api.Table{Policy: api.Priority,
				Ins: []api.Column{{Text: "double + 1", Item: "number"}, {Text: "level"}}, Outs: []api.Column{{Text: "out", Item: "amount", Values: []string{"1", "-2"}}},
				Rules: []api.Rule{{Tests: []string{"< 10", `"a"`}, Says: []string{"double"}}, {Tests: []string{">= 10", "-"}, Says: []string{"0"}}}, Default: []string{"-1"}}},
			{Id: "d2", Name: "double", Item: "number", Needs: []string{"i1"}, Text: "x * 2"},
			{Id: "d3", Name: "both", Needs: []string{"i3", "d1"}, Table: api.Table{Policy: api.First,
				Outs: []api.Column{{Text: "a"}, {Text: "b", Item: "any", Values: []string{`"<&>"`}}}, Rules: []api.Rule{{Says: []string{"true", "[what, rate]"}}}, Default: []string{"false", "null"}}},
			{Id: "d4", Name: "total", Table: api.Table{Policy: api.CollectSum, Outs: []api.Column{{Text: "n"}}}},
			{Id: "d5", Name: "last", Text: `"a" < "\\"`},
		}}
}

// P20.1, P20.2: the chapter's first example.
func TestExample(t *testing.T) {
	m := exampleModel()
	if s, e := WriteXML(m); s != example || e != api.OK {
		t.Error(s, e)
	}
	if back, at, e := ReadXML(example); !model.Same(back, m) || at != 0 || e != api.OK {
		t.Error(back, at, e)
	}
	want := []api.Elem{{Name: "definitions", Up: -1, Attrs: []api.Attr{{Name: "xmlns", Value: "urn:tariff:dmn"}, {Name: "id", Value: "m"}, {Name: "name", Value: "Prices"}}}, {Name: "inputData", Attrs: []api.Attr{{Name: "id", Value: "i"}, {Name: "name", Value: "x"}}}, {Name: "variable", Up: 1, Attrs: []api.Attr{{Name: "typeRef", Value: "number"}}}, {Name: "decision", Attrs: []api.Attr{{Name: "id", Value: "d"}, {Name: "name", Value: "y"}}}, {Name: "informationRequirement", Up: 3}, {Name: "requiredInput", Up: 4, Attrs: []api.Attr{{Name: "href", Value: "#i"}}}, {Name: "literalExpression", Up: 3}, {Name: "text", Up: 6, Text: "x * 2"}}
	if l, e := ToTree(m); !sameTree(l, want) || e != api.OK {
		t.Error(l, e)
	}
	if back, at, e := FromTree(want); !model.Same(back, m) || at != 0 || e != api.OK {
		t.Error(back, at, e)
	}
	hold(t, want)
	for _, m := range []api.Model{m, sample(), {Id: "m"}} {
		if e := holdModel(t, m); e != api.OK {
			t.Error(e)
		}
	}
}

// within is a document with something in its first element.
func within(s string) string {
	return "<definitions xmlns='urn:tariff:dmn' id='m' name=''>" + s + "</definitions>"
}

// deciding is a document with an input, and a decision that has something in it.
func deciding(s string) string {
	return within("<inputData id='i' name='x'/><decision id='d' name='y'>" + s + "</decision>")
}

// tabled is a document with a decision that is a table of that hit policy, with something in it.
func tabled(hit, s string) string {
	return deciding("<decisionTable hitPolicy='" + hit + "'>" + s + "</decisionTable>")
}

const one = "<literalExpression><text>1</text></literalExpression>"

// P20.2: documents with faults, and the like without: the chapter's examples, each kind of fault, and which comes first.
func TestReadXML(t *testing.T) {
	out, other := "<output name='o'/>", "<output name='q'/>"
	of := "<defaultOutputEntry><text>1</text></defaultOutputEntry>"
	entry, says := "<inputEntry><text>-</text></inputEntry>", "<outputEntry><text>1</text></outputEntry>"
	in := "<input><inputExpression><text>1</text></inputExpression></input>"
	values := "<outputValues><text>1</text><text>2</text></outputValues>"
	need := func(s string) string {
		return "<informationRequirement>" + s + "</informationRequirement>" + one
	}
	for _, c := range []struct {
		doc  string
		want api.Errno
	}{
		{"<definitions/>", api.ErrMiss}, {"<definitions x=''/>", api.ErrMiss}, {"<definitions xmlns='u'/>", api.ErrText}, {"<a/>", api.ErrMiss}, {"<a xmlns='u'>x</a>", api.ErrMiss}, {"<text>x</text>", api.ErrMiss}, {"<a><definitions xmlns='urn:tariff:dmn' id='m' name=''/></a>", api.ErrMiss}, {strings.Replace(example, "requiredInput", "requiredDecision", 1), api.ErrName},
		{"", api.ErrText}, {"<a>", api.ErrText}, {"\xff", api.ErrForm}, {strings.Repeat("x", 300001), api.ErrLong}, {within(strings.Repeat("<a>", 60) + strings.Repeat("</a>", 60)), api.ErrDeep}, {within(strings.Repeat("<a>", 59) + strings.Repeat("</a>", 59)), api.ErrExtra}, {within("<a x='' x=''/>"), api.ErrTwice}, {within(strings.Repeat("<a/>", 20000)), api.ErrLong}, {within(strings.Repeat("<a/>", 19999)), api.ErrExtra},
		{within(""), api.OK}, {within("<!-- -->"), api.OK}, {within(" "), api.ErrExtra}, {within("x"), api.ErrExtra}, {within("<a/>"), api.ErrExtra}, {within("<text/>"), api.ErrExtra}, {within("<definitions/>"), api.ErrExtra}, {"<definitions name='n' id='m' xmlns='urn:tariff:dmn'/>", api.OK}, {"<definitions xmlns='urn:tariff:dmn' id='m' name='' x=''/>", api.ErrExtra}, {"<definitions xmlns='urn:tariff:dmn' id='m'/>", api.ErrMiss}, {"<definitions xmlns='urn:tariff:dmn' name=''/>", api.ErrMiss}, {"<definitions id='m' name=''/>", api.ErrMiss}, {"<definitions xmlns='' id='m' name=''/>", api.ErrText}, {"<definitions xmlns='urn:tariff:dmn ' id='m' name=''/>", api.ErrText}, {"<definitions xmlns='urn:tariff:dmn' id='1' name=''/>", api.ErrForm},
		{within("<itemDefinition name='t' typeRef='list&lt;any>'/>"), api.OK}, {within("<itemDefinition name='t' typeRef='t'/>"), api.ErrText}, {within("<itemDefinition name='t' typeRef=''/>"), api.ErrText}, {within("<itemDefinition name='t'/>"), api.ErrMiss}, {within("<itemDefinition typeRef='any'/>"), api.ErrMiss}, {within("<itemDefinition name='any' typeRef='any'/>"), api.ErrForm}, {within("<itemDefinition name='t' typeRef='any'><allowedValues/></itemDefinition>"), api.ErrMiss}, {within("<itemDefinition name='t' typeRef='any'><allowedValues><text/></allowedValues></itemDefinition>"), api.OK}, {within("<itemDefinition name='t' typeRef='any'><allowedValues><text>1</text></allowedValues></itemDefinition>"), api.OK}, {within("<itemDefinition name='t' typeRef='any'><allowedValues><text>1</text><text>2</text></allowedValues></itemDefinition>"), api.ErrExtra}, {within("<itemDefinition name='t' typeRef='any'><allowedValues><text>1</text></allowedValues><allowedValues/></itemDefinition>"), api.ErrExtra}, {within("<itemDefinition name='t' typeRef='any'><allowedValues>1</allowedValues></itemDefinition>"), api.ErrMiss}, {within("<itemDefinition name='t' typeRef='any'>x</itemDefinition>"), api.ErrExtra}, {within("<itemDefinition name='t' typeRef='any'><allowedValues><text> 1</text></allowedValues></itemDefinition>"), api.ErrForm}, {within("<itemDefinition name='t' typeRef='any'/><itemDefinition name='t' typeRef='any'/>"), api.ErrTwice},
		{within("<inputData id='i' name='x'/><itemDefinition name='t' typeRef='t'/>"), api.ErrExtra}, {within("<inputData name='x'/>"), api.ErrMiss}, {within("<inputData id='i'/>"), api.ErrMiss}, {within("<inputData id='i' name='x'><variable/></inputData>"), api.ErrMiss}, {within("<inputData id='i' name='x'><variable typeRef=''/></inputData>"), api.OK}, {within("<inputData id='i' name='x'><variable typeRef='any'/></inputData>"), api.OK}, {within("<inputData id='i' name='x'><variable typeRef='t'/></inputData>"), api.ErrName}, {within("<inputData id='i' name='x'><variable typeRef='any'/><variable typeRef='any'/></inputData>"), api.ErrExtra}, {within("<inputData id='i' name='x'><variable typeRef='any'> </variable></inputData>"), api.ErrExtra}, {within("<inputData id='i' name='x' typeRef='t'/>"), api.ErrExtra}, {within("<inputData id='i' name='x' xmlns='u'/>"), api.ErrExtra},
		{deciding(""), api.ErrMiss}, {deciding(one), api.OK}, {deciding(one + one), api.ErrExtra}, {deciding(one + "<variable/>"), api.ErrExtra}, {deciding("<variable typeRef='number'/>" + one), api.OK}, {deciding("<variable typeRef='string'/>" + one), api.ErrType}, {deciding("<literalExpression/>"), api.ErrMiss}, {deciding("<literalExpression><text/></literalExpression>"), api.ErrForm}, {deciding("<literalExpression><text>1<a/></text></literalExpression>"), api.ErrText}, {deciding("<literalExpression><text><a/></text></literalExpression>"), api.ErrExtra}, {deciding("<literalExpression><text x=''>1</text></literalExpression>"), api.ErrExtra}, {deciding("<literalExpression><text>1 </text></literalExpression>"), api.ErrForm}, {deciding(one + "<decisionTable hitPolicy='X'/>"), api.ErrExtra}, {deciding("<decisionTable hitPolicy='FIRST'>" + out + "</decisionTable>" + one), api.ErrExtra},
		{deciding(need("<requiredInput href='#i'/>")), api.OK}, {deciding(need("<requiredDecision href='#i'/>")), api.ErrName}, {deciding(need("<requiredInput href='#d'/>")), api.ErrName}, {deciding(need("<requiredDecision href='#d'/>")), api.ErrCycle}, {deciding(need("<requiredInput href='i'/>")), api.ErrText}, {deciding(need("<requiredInput href=''/>")), api.ErrText}, {deciding(need("<requiredInput href='#'/>")), api.ErrName}, {deciding(need("<requiredInput href='##i'/>")), api.ErrName}, {deciding(need("<requiredInput href='# i'/>")), api.ErrName}, {deciding(need("<requiredInput/>")), api.ErrMiss}, {deciding(need("")), api.ErrMiss}, {deciding(need("<requiredInput href='#i'/><requiredDecision href='x'/>")), api.ErrExtra}, {deciding(need("<requiredInput href='#i'/><requiredInput href='#i'/>")), api.ErrExtra}, {deciding(one + "<informationRequirement/>"), api.ErrExtra}, {deciding(need("<requiredInput href='#i'/>") + need("<requiredInput href='#i'/>")), api.ErrExtra}, {deciding("<informationRequirement><requiredInput href='#i'/></informationRequirement>" + need("<requiredInput href='#i'/>")), api.ErrTwice},
		// An inputData that isn't allowed where it stands is one that can be required, and so is one with other faults.
		{within("<decision id='d' name='y'>" + need("<requiredInput href='#i'/>") + "</decision><inputData id='i' name='x'/>"), api.ErrExtra}, {within("<decision id='d' name='y'>" + need("<requiredInput href='#i'/>") + "</decision><a><inputData id='i' name='x'/></a>"), api.ErrName}, {within("<inputData id='i'/><decision id='d' name='y'>" + need("<requiredInput href='#i'/>") + "</decision>"), api.ErrMiss}, {within("<inputData name='i'/><decision id='d' name='y'>" + need("<requiredInput href='#'/>") + "</decision>"), api.ErrName}, {within("<inputData id='' name='x'/><decision id='d' name='y'>" + need("<requiredInput href='#'/>") + "</decision>"), api.ErrForm},
		{tabled("UNIQUE", ""), api.ErrMiss}, {tabled("UNIQUE", out), api.OK}, {tabled("", out), api.ErrText}, {tabled("unique", out), api.ErrText}, {tabled("COUNT", out), api.ErrText}, {tabled("COLLECT' aggregation='SUM", out), api.OK}, {tabled("COLLECT' aggregation='", out), api.ErrText}, {tabled("COLLECT' aggregation='none", out), api.ErrText}, {tabled("UNIQUE' aggregation='SUM", out), api.ErrText}, {tabled("UNIQUE' aggregation='", out), api.ErrText}, {deciding("<decisionTable>" + out + "</decisionTable>"), api.ErrMiss}, {deciding("<decisionTable aggregation='SUM'>" + out + "</decisionTable>"), api.ErrMiss}, {deciding("<decisionTable aggregation='x'>" + out + "</decisionTable>"), api.ErrText}, {tabled("FIRST", out+"x"), api.ErrText}, {tabled("PRIORITY", out), api.ErrMiss},
		{tabled("FIRST", in+out), api.OK}, {tabled("FIRST", out+in), api.ErrExtra}, {tabled("FIRST", "<input/>"+out), api.ErrMiss}, {tabled("FIRST", "<input><inputExpression/></input>"+out), api.ErrMiss}, {tabled("FIRST", "<input><inputExpression typeRef='number'><text>1</text></inputExpression></input>"+out), api.OK}, {tabled("FIRST", "<input><inputExpression typeRef='x'><text>1</text></inputExpression></input>"+out), api.ErrName}, {tabled("FIRST", "<input typeRef='number'><inputExpression><text>1</text></inputExpression></input>"+out), api.ErrExtra}, {tabled("FIRST", in[:7]+in[7:len(in)-8]+in[7:len(in)-8]+"</input>"+out), api.ErrExtra},
		{tabled("FIRST", "<output/>"), api.ErrMiss}, {tabled("FIRST", "<output name='o' typeRef='number'/>"), api.OK}, {tabled("FIRST", "<output name='o'>"+values+of+"</output>"), api.OK}, {tabled("FIRST", "<output name='o'>"+of+values+"</output>"), api.ErrExtra}, {tabled("FIRST", "<output name='o'>"+values+values+"</output>"), api.ErrExtra}, {tabled("FIRST", "<output name='o'>"+of+of+"</output>"), api.ErrExtra}, {tabled("FIRST", "<output name='o'><outputValues/></output>"), api.ErrMiss}, {tabled("FIRST", "<output name='o'><defaultOutputEntry/></output>"), api.ErrMiss}, {tabled("FIRST", out+out), api.ErrForm},
		{tabled("FIRST", "<output name='o'>"+of+"</output>"+other), api.ErrMiss}, {tabled("FIRST", other+"<output name='o'>"+of+"</output>"), api.ErrMiss}, {tabled("FIRST", "<output name='o'>"+of+"</output><output name='q'>"+of+"</output>"), api.OK}, {tabled("FIRST", out+"<rule>"+says+"</rule>"+other), api.ErrExtra}, {tabled("FIRST", out+"<rule>"+says+"</rule><output>"+of+"</output>"), api.ErrMiss}, {tabled("FIRST", out+"<output name='q'><a>"+of+"</a></output>"), api.ErrExtra}, {within("<output name='o'>" + of + "</output>" + other), api.ErrExtra}, {tabled("FIRST", out+"<rule>"+says+"<output name='q'>"+of+"</output>"+out+"</rule>"), api.ErrExtra}, {tabled("FIRST", "<rule>"+says+"</rule>"), api.ErrMiss}, {tabled("FIRST", "<rule>"+says+"</rule>"+out), api.ErrMiss},
		{tabled("FIRST", out+"<rule/>"), api.ErrMiss}, {tabled("FIRST", out+"<rule>"+says+"</rule>"), api.OK}, {tabled("FIRST", in+out+"<rule>"+entry+says+"</rule>"), api.OK}, {tabled("FIRST", in+out+"<rule>"+entry+"</rule>"), api.ErrMiss}, {tabled("FIRST", in+out+"<rule>"+says+entry+"</rule>"), api.ErrExtra}, {tabled("FIRST", in+out+"<rule>"+says+"</rule>"), api.ErrForm}, {tabled("FIRST", out+"<rule>"+says+says+"</rule>"), api.ErrForm}, {tabled("FIRST", out+"<rule><outputEntry/></rule>"), api.ErrMiss}, {tabled("FIRST", out+"<rule><inputEntry/>"+says+"</rule>"), api.ErrMiss}, {tabled("FIRST", out+"<rule id='r'>"+says+"</rule>"), api.ErrExtra},
		{within("<x/><itemDefinition/>"), api.ErrMiss}, {within("<x><itemDefinition typeRef='x'/></x>"), api.ErrExtra}, {within("<x/><decision>" + need("<requiredInput href='#i'/>") + "</decision>"), api.ErrName}, {within("<itemDefinition name='t' typeRef='t'/><x/><decision>" + need("<requiredInput href='#i'/>") + "</decision>"), api.ErrText},
	} {
		m, at, e := ReadXML(c.doc)
		if e != c.want || e != api.OK && !model.Same(m, api.Model{}) || at < 0 || at > len(c.doc) {
			t.Errorf("%.300s: %v at %d, want %v", c.doc, e, at, c.want)
		}
		holdRead(t, c.doc)
	}
}

// P20.1: a tree that is none, and one whose text is longer than any document.
func TestFromTree(t *testing.T) {
	long := flat(nest(mustTree(t, exampleModel())))
	long[len(long)-1].Text = strings.Repeat("1", 1<<20)
	other := flat(nest(mustTree(t, exampleModel())))
	other[0].Name = "a"
	spare := append(slices.Clone(other), make([]api.Elem, 20001)...)
	for i, c := range []struct {
		l    []api.Elem
		want api.Errno
	}{
		{nil, api.ErrForm}, {[]api.Elem{{Name: "definitions"}}, api.ErrForm}, {[]api.Elem{{Name: "definitions", Up: -1, Attrs: []api.Attr{{Name: "x"}, {Name: "x"}}}}, api.ErrForm}, {spare, api.ErrLong}, {spare[:20000], api.ErrForm}, {other, api.ErrMiss}, {long, api.ErrLong},
	} {
		if m, at, e := FromTree(c.l); e != c.want || !model.Same(m, api.Model{}) || at < 0 || at > len(c.l) {
			t.Errorf("case %d: %v at %d, want %v", i, e, at, c.want)
		}
	}
}

// P20.1: the place of a fault in a tree is that of the element that has it.
func TestPlace(t *testing.T) {
	l := mustTree(t, sample())
	for i, e := range l {
		if len(e.Attrs) == 0 && e.Name != "text" {
			continue
		}
		c := flat(nest(l))
		c[i].Attrs = append(c[i].Attrs, api.Attr{Name: "x"})
		if _, at, e := FromTree(c); at != i || e != api.ErrExtra {
			t.Errorf("%d: %d %v", i, at, e)
		}
	}
}

// mustTree is the tree of a valid model.
func mustTree(t *testing.T, m api.Model) []api.Elem {
	t.Helper()
	l, e := ToTree(m)
	if e != api.OK {
		t.Fatal(brief(m), e)
	}
	return l
}

// P20.1: each policy has its hit policy and its aggregation, and no other pair is one.
func TestPolicies(t *testing.T) {
	hits := []string{"-", "", "UNIQUE", "ANY", "PRIORITY", "FIRST", "RULE ORDER", "OUTPUT ORDER", "COLLECT", "RULE_ORDER", "collect", "U", "UNIQUE ", "SUM"}
	sums := []string{"-", "", "SUM", "MIN", "MAX", "COUNT", "sum", "NONE", "COLLECT"}
	found := map[int]int{}
	for _, hit := range hits {
		for _, sum := range sums {
			for _, back := range []bool{false, true} {
				m := sample()
				m.Decisions[0].Item = ""
				top := nest(mustTree(t, m))
				n := below(top)[slices.IndexFunc(below(top), func(n *node) bool { return n.name == "decisionTable" })]
				n.attrs = nil
				for _, a := range []api.Attr{{Name: "hitPolicy", Value: hit}, {Name: "aggregation", Value: sum}} {
					if a.Value != "-" {
						n.attrs = append(n.attrs, a)
					}
				}
				if back {
					slices.Reverse(n.attrs)
				}
				hold(t, flat(top))
				if m, _, e := FromTree(flat(top)); e == api.OK {
					found[m.Decisions[0].Table.Policy]++
				}
			}
		}
	}
	for p := range signs {
		if p > 0 && found[p] != 2 || len(found) != 11 {
			t.Error(found)
		}
	}
}

// P20.2, P20.3: the documents of the heaviest models are not too long.
func TestHeaviest(t *testing.T) {
	text := func(s string, n int) string { return `"` + strings.Repeat(s, (n-2)/len(s)) + `"` }
	says := func(s string, n int) []string { return slices.Repeat([]string{s}, n) }
	rules := func(n int, r api.Rule) []api.Rule { return slices.Repeat([]api.Rule{r}, n) }
	named := func(prefix string, n int) string { return prefix + string(rune('A'+n/26)) + string(rune('A'+n%26)) }
	table := func(x api.Table) []api.Decision {
		x.Policy = api.First
		return []api.Decision{{Id: "d", Name: "d", Table: x}}
	}
	filled := func(of func(n int) api.Model) api.Model {
		n := 0
		for model.Validate(of(n+1)) == api.OK {
			n++
		}
		return of(n)
	}
	outs := []api.Column{{Text: "o"}}
	for i, m := range []api.Model{
		filled(func(n int) api.Model {
			return api.Model{Id: "m", Name: strings.Repeat("\"", 1000), Decisions: table(api.Table{Outs: outs, Rules: rules(n, api.Rule{Says: says(text("&", 1000), 1)})})}
		}),
		filled(func(n int) api.Model {
			var list []api.Decision
			for i := range n {
				d := table(api.Table{Outs: outs, Rules: rules(min(60, n), api.Rule{Says: says("1", 1)})})[0]
				d.Id, d.Name = named("d", i), named("d", i)
				list = append(list, d)
			}
			return api.Model{Id: "m", Decisions: list}
		}),
		filled(func(n int) api.Model {
			var list []api.Decision
			for i := range n {
				d := table(api.Table{Ins: []api.Column{{Text: "1", Item: "any"}, {Text: "2"}}, Outs: []api.Column{{Text: "o", Item: "any", Values: []string{"1"}}, {Text: "q"}}, Default: says("1", 2), Rules: rules(2, api.Rule{Tests: says("-", 2), Says: says("1", 2)})})[0]
				d.Id, d.Name = named("d", i), named("d", i)
				list = append(list, d)
			}
			return api.Model{Id: "m", Decisions: list}
		}),
		filled(func(n int) api.Model {
			m := api.Model{Id: "m"}
			for i := range n {
				m.Items = append(m.Items, api.Item{Name: named("t", i), Type: api.Type{Kind: api.List, Of: api.Bool}, Allowed: "-"})
				m.Inputs = append(m.Inputs, api.Input{Id: named("i", i), Name: named("i", i), Item: "any"})
			}
			for i := range n {
				d := api.Decision{Id: named("d", i), Name: named("d", i), Item: "any", Text: "1"}
				for k := range min(n, 7) {
					d.Needs = append(d.Needs, m.Inputs[k].Id)
				}
				m.Decisions = append(m.Decisions, d)
			}
			return m
		}),
	} {
		s, e := WriteXML(m)
		if e != api.OK || model.Weight(m) < 12000 || len(s) < 40000 {
			t.Errorf("case %d: weight %d, %d bytes, %v", i, model.Weight(m), len(s), e)
		}
		holdModel(t, m)
	}
}
