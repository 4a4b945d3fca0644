package bind

import (
	"encoding/xml"
	"fmt"
	"slices"
	"strings"
	"testing"

	"tariff/api"
	"tariff/kind"
	"tariff/model"
	"tariff/tree"
)

// What the chapter says, by its table as it stands and by the library's reader and writer of documents.

const elements = `
| definitions (the first one) | xmlns, id, name | itemDefinition*, inputData*, decision* |
| itemDefinition | name, typeRef | allowedValues? |
| allowedValues | | text |
| inputData | id, name | variable? |
| variable | typeRef | |
| decision | id, name | variable?, informationRequirement*, literalExpression or decisionTable (one of the two) |
| informationRequirement | | requiredInput or requiredDecision (one of the two) |
| requiredInput, requiredDecision | href | |
| literalExpression | | text |
| decisionTable | hitPolicy, aggregation? | input*, output+, rule* |
| input | | inputExpression |
| inputExpression | typeRef? | text |
| output | name, typeRef? | outputValues?, defaultOutputEntry? |
| outputValues | | text+ |
| defaultOutputEntry | | text |
| rule | | inputEntry*, outputEntry+ |
| inputEntry, outputEntry | | text |
| text | | |
`

// signs are a hit policy and an aggregation, or -, of each policy.
var signs = []string{"", "UNIQUE/-", "ANY/-", "PRIORITY/-", "FIRST/-", "RULE ORDER/-", "OUTPUT ORDER/-", "COLLECT/-", "COLLECT/SUM", "COLLECT/MIN", "COLLECT/MAX", "COLLECT/COUNT"}

// node is an element with those within it.
type node struct {
	name  string
	attrs []api.Attr
	text  string
	kids  []*node
}

// nest is the first element of a tree.
func nest(t []api.Elem) *node {
	var nodes []*node
	for i, e := range t {
		nodes = append(nodes, &node{name: e.Name, attrs: slices.Clone(e.Attrs), text: e.Text})
		if i > 0 {
			nodes[e.Up].kids = append(nodes[e.Up].kids, nodes[i])
		}
	}
	return nodes[0]
}

// flat is the tree of an element.
func flat(n *node) []api.Elem {
	var t []api.Elem
	var add func(n *node, up int)
	add = func(n *node, up int) {
		at := len(t)
		t = append(t, api.Elem{Name: n.name, Up: up, Attrs: slices.Clone(n.attrs), Text: n.text})
		for _, k := range n.kids {
			add(k, at)
		}
	}
	add(n, -1)
	return t
}

// below is an element and all within it.
func below(n *node) []*node {
	list := []*node{n}
	for _, k := range n.kids {
		list = append(list, below(k)...)
	}
	return list
}

// attrOf is an element's attribute, or -.
func attrOf(n *node, name string) string {
	for _, a := range n.attrs {
		if a.Name == name {
			return a.Value
		}
	}
	return "-"
}

// named is those directly within an element that have a name.
func named(n *node, name string) []*node {
	var list []*node
	for _, k := range n.kids {
		if k.name == name {
			list = append(list, k)
		}
	}
	return list
}

// cells is the parts of a cell of the table.
func cells(s string) []string {
	s = strings.TrimSuffix(strings.TrimSpace(s), " (one of the two)")
	if s == "" {
		return nil
	}
	return strings.Split(s, ", ")
}

// row is the attributes and contents of an element, as the table has them.
func row(name string) (attrs, contents []string) {
	for line := range strings.Lines(elements) {
		c := strings.Split(line, "|")
		if len(c) == 5 && slices.Contains(cells(strings.TrimSuffix(strings.TrimSpace(c[1]), " (the first one)")), name) {
			return cells(c[2]), cells(c[3])
		}
	}
	panic(name)
}

// index is the place of a name in a cell; negative if it isn't there.
func index(cell []string, name string) int {
	return slices.IndexFunc(cell, func(c string) bool {
		return slices.Contains(strings.Split(strings.TrimRight(c, "?*+"), " or "), name)
	})
}

func ends(s string, marks string) bool {
	return strings.ContainsAny(s[len(s)-1:], marks)
}

// faults is all faults of an element, which is allowed where it stands, and of those within it.
func faults(n, top *node) []api.Errno {
	attrs, contents := row(n.name)
	var list []api.Errno
	unless := func(good bool, e api.Errno) {
		if !good {
			list = append(list, e)
		}
	}
	for _, c := range attrs {
		unless(ends(c, "?") || attrOf(n, c) != "-", api.ErrMiss)
	}
	for _, a := range n.attrs {
		if index(attrs, a.Name) < 0 {
			list = append(list, api.ErrExtra)
		} else {
			list = append(list, wrong(n, top, a))
		}
	}
	unless(n.text == "" || n.name == "text", api.ErrExtra)
	allowed := make([]int, len(contents))
	for i, k := range n.kids {
		at := index(contents, k.name)
		extra := at < 0 || slices.ContainsFunc(n.kids[:i], func(o *node) bool {
			before := index(contents, o.name)
			return before > at || before == at && !ends(contents[at], "*+")
		})
		unless(!extra, api.ErrExtra)
		if !extra {
			allowed[at]++
			list = append(list, faults(k, top)...)
		}
	}
	for i, c := range contents {
		unless(allowed[i] > 0 || ends(c, "?*"), api.ErrMiss)
	}
	if n.name == "decisionTable" {
		with := map[int]int{}
		for _, o := range named(n, "output") {
			with[min(1, len(named(o, "defaultOutputEntry")))]++
		}
		unless(len(with) < 2, api.ErrMiss)
	}
	return list
}

// wrong is what is wrong with the value of an attribute.
func wrong(n, top *node, a api.Attr) api.Errno {
	switch n.name + " " + a.Name {
	case "definitions xmlns":
		if a.Value != "urn:tariff:dmn" {
			return api.ErrText
		}
	case "itemDefinition typeRef":
		if _, e := kind.Parse(a.Value); e != api.OK {
			return api.ErrText
		}
	case "decisionTable hitPolicy", "decisionTable aggregation":
		hit, aggregation := attrOf(n, "hitPolicy"), attrOf(n, "aggregation")
		if hit == "-" {
			hit = "COLLECT"
		}
		if !slices.Contains(signs, hit+"/"+aggregation) {
			return api.ErrText
		}
	case "requiredInput href", "requiredDecision href":
		what := map[string]string{"requiredInput": "inputData", "requiredDecision": "decision"}[n.name]
		if a.Value == "" || a.Value[0] != '#' {
			return api.ErrText
		}
		if !slices.ContainsFunc(named(top, what), func(k *node) bool { return slices.Contains(k.attrs, api.Attr{Name: "id", Value: a.Value[1:]}) }) {
			return api.ErrName
		}
	}
	return api.OK
}

// wantFault is the smallest number of the faults of a tree.
func wantFault(t []api.Elem) api.Errno {
	top := nest(t)
	if top.name != "definitions" {
		return api.ErrMiss
	}
	least := api.OK
	for _, e := range faults(top, top) {
		if e != api.OK && (least == api.OK || e < least) {
			least = e
		}
	}
	return least
}

// The document as the library reads and writes it.

type xText struct {
	Text string `xml:"text"`
}

type xTexts struct {
	Texts []string `xml:"text"`
}

type xType struct {
	Ref string `xml:"typeRef,attr"`
}

type xItem struct {
	Name    string `xml:"name,attr"`
	Type    string `xml:"typeRef,attr"`
	Allowed *xText `xml:"allowedValues"`
}

type xInput struct {
	Id       string `xml:"id,attr"`
	Name     string `xml:"name,attr"`
	Variable *xType `xml:"variable"`
}

type xRef struct {
	Href string `xml:"href,attr"`
}

type xNeed struct {
	Input    *xRef `xml:"requiredInput"`
	Decision *xRef `xml:"requiredDecision"`
}

type xIn struct {
	Expression struct {
		Type string `xml:"typeRef,attr,omitempty"`
		Text string `xml:"text"`
	} `xml:"inputExpression"`
}

type xOut struct {
	Name    string  `xml:"name,attr"`
	Type    string  `xml:"typeRef,attr,omitempty"`
	Values  *xTexts `xml:"outputValues"`
	Default *xText  `xml:"defaultOutputEntry"`
}

type xRule struct {
	Tests []xText `xml:"inputEntry"`
	Says  []xText `xml:"outputEntry"`
}

type xTable struct {
	Hit         string  `xml:"hitPolicy,attr"`
	Aggregation string  `xml:"aggregation,attr,omitempty"`
	Ins         []xIn   `xml:"input"`
	Outs        []xOut  `xml:"output"`
	Rules       []xRule `xml:"rule"`
}

type xDecision struct {
	Id       string  `xml:"id,attr"`
	Name     string  `xml:"name,attr"`
	Variable *xType  `xml:"variable"`
	Needs    []xNeed `xml:"informationRequirement"`
	Literal  *xText  `xml:"literalExpression"`
	Table    *xTable `xml:"decisionTable"`
}

type xDefinitions struct {
	XMLName   xml.Name    `xml:"definitions"`
	Space     string      `xml:"xmlns,attr"`
	Id        string      `xml:"id,attr"`
	Name      string      `xml:"name,attr"`
	Items     []xItem     `xml:"itemDefinition"`
	Inputs    []xInput    `xml:"inputData"`
	Decisions []xDecision `xml:"decision"`
}

// said is the texts of elements.
func said(list []xText) []string {
	var texts []string
	for _, x := range list {
		texts = append(texts, x.Text)
	}
	return texts
}

// saying is elements with those texts.
func saying(list []string) []xText {
	var texts []xText
	for _, s := range list {
		texts = append(texts, xText{s})
	}
	return texts
}

// optional is what there is, or nothing.
func optional[T any](there bool, x T) *T {
	if !there {
		return nil
	}
	return &x
}

// value is what there is, or zero.
func value[T any](x *T) T {
	if x == nil {
		x = new(T)
	}
	return *x
}

// wantModel is the model of a tree without faults.
func wantModel(t *testing.T, l []api.Elem) api.Model {
	t.Helper()
	doc, e := tree.Write(l)
	var x xDefinitions
	if err := xml.Unmarshal([]byte(doc), &x); err != nil || e != api.OK {
		t.Fatalf("%s: %v %v", doc, err, e)
	}
	m := api.Model{Id: x.Id, Name: x.Name}
	for _, i := range x.Items {
		of, _ := kind.Parse(i.Type)
		m.Items = append(m.Items, api.Item{Name: i.Name, Type: of, Allowed: value(i.Allowed).Text})
	}
	for _, i := range x.Inputs {
		m.Inputs = append(m.Inputs, api.Input{Id: i.Id, Name: i.Name, Item: value(i.Variable).Ref})
	}
	for _, d := range x.Decisions {
		o := api.Decision{Id: d.Id, Name: d.Name, Item: value(d.Variable).Ref, Text: value(d.Literal).Text}
		for _, n := range d.Needs {
			o.Needs = append(o.Needs, (value(n.Input).Href + value(n.Decision).Href)[1:])
		}
		if d.Table != nil {
			o.Table = wantTable(*d.Table)
		}
		m.Decisions = append(m.Decisions, o)
	}
	return m
}

func wantTable(x xTable) api.Table {
	if x.Aggregation == "" {
		x.Aggregation = "-"
	}
	t := api.Table{Policy: slices.Index(signs, x.Hit+"/"+x.Aggregation)}
	for _, c := range x.Ins {
		t.Ins = append(t.Ins, api.Column{Text: c.Expression.Text, Item: c.Expression.Type})
	}
	for _, c := range x.Outs {
		t.Outs = append(t.Outs, api.Column{Text: c.Name, Item: c.Type, Values: value(c.Values).Texts})
		if c.Default != nil {
			t.Default = append(t.Default, c.Default.Text)
		}
	}
	for _, r := range x.Rules {
		t.Rules = append(t.Rules, api.Rule{Tests: said(r.Tests), Says: said(r.Says)})
	}
	return t
}

// wantTree is the tree of a valid model.
func wantTree(t *testing.T, m api.Model) []api.Elem {
	t.Helper()
	x := xDefinitions{Space: "urn:tariff:dmn", Id: m.Id, Name: m.Name}
	inputs := map[string]int{}
	for _, i := range m.Items {
		name, _ := kind.Name(i.Type)
		x.Items = append(x.Items, xItem{i.Name, name, optional(i.Allowed != "", xText{i.Allowed})})
	}
	for _, i := range m.Inputs {
		inputs[i.Id]++
		x.Inputs = append(x.Inputs, xInput{i.Id, i.Name, optional(i.Item != "", xType{i.Item})})
	}
	for _, d := range m.Decisions {
		o := xDecision{Id: d.Id, Name: d.Name, Variable: optional(d.Item != "", xType{d.Item}), Literal: optional(d.Text != "", xText{d.Text})}
		for _, id := range d.Needs {
			o.Needs = append(o.Needs, xNeed{optional(inputs[id] > 0, xRef{"#" + id}), optional(inputs[id] == 0, xRef{"#" + id})})
		}
		if d.Text == "" {
			o.Table = tableOf(d.Table)
		}
		x.Decisions = append(x.Decisions, o)
	}
	doc, err := xml.Marshal(x)
	l, _, e := tree.Read(string(doc))
	if err != nil || e != api.OK {
		t.Fatalf("%s: %v %v", doc, err, e)
	}
	return l
}

func tableOf(t api.Table) *xTable {
	x := xTable{Hit: signs[t.Policy]}
	x.Hit, x.Aggregation, _ = strings.Cut(x.Hit, "/")
	x.Aggregation = strings.TrimPrefix(x.Aggregation, "-")
	for _, c := range t.Ins {
		var in xIn
		in.Expression.Text, in.Expression.Type = c.Text, c.Item
		x.Ins = append(x.Ins, in)
	}
	for i, c := range t.Outs {
		o := xOut{c.Text, c.Item, optional(len(c.Values) > 0, xTexts{c.Values}), nil}
		if len(t.Default) > 0 {
			o.Default = &xText{t.Default[i]}
		}
		x.Outs = append(x.Outs, o)
	}
	for _, r := range t.Rules {
		x.Rules = append(x.Rules, xRule{saying(r.Tests), saying(r.Says)})
	}
	return &x
}

// wantFrom is FromTree.
func wantFrom(t *testing.T, l []api.Elem) (api.Model, api.Errno) {
	t.Helper()
	if e := tree.Check(l); e != api.OK {
		return api.Model{}, e
	}
	if e := wantFault(l); e != api.OK {
		return api.Model{}, e
	}
	m := wantModel(t, l)
	if e := model.Validate(m); e != api.OK {
		return api.Model{}, e
	}
	return m, api.OK
}

// sameTree tells whether two trees are the same: nil and empty lists are.
func sameTree(a, b []api.Elem) bool {
	return slices.EqualFunc(a, b, func(x, y api.Elem) bool {
		return x.Name == y.Name && x.Up == y.Up && x.Text == y.Text && slices.Equal(x.Attrs, y.Attrs)
	})
}

// hold holds FromTree against what is wanted of a tree, and tells the error that is wanted.
func hold(t *testing.T, l []api.Elem) api.Errno {
	t.Helper()
	want, wantErr := wantFrom(t, l)
	m, at, e := FromTree(l)
	if e != wantErr || !model.Same(m, want) {
		t.Errorf("FromTree(%s): %s %v, want %s %v", brief(l), brief(m), e, brief(want), wantErr)
	}
	if at < 0 || at > len(l) || e == api.OK && at != 0 {
		t.Errorf("FromTree(%s): place %d", brief(l), at)
	}
	if e == api.OK {
		holdModel(t, m)
	}
	return wantErr
}

// holdRead holds ReadXML against what is wanted of a document, and tells the error that is wanted.
func holdRead(t *testing.T, b string) api.Errno {
	t.Helper()
	var want api.Model
	l, _, wantErr := tree.Read(b)
	if wantErr == api.OK {
		want, wantErr = wantFrom(t, l)
	}
	m, at, e := ReadXML(b)
	if e != wantErr || !model.Same(m, want) {
		t.Errorf("ReadXML(%.2000q): %s %v, want %s %v", b, brief(m), e, brief(want), wantErr)
	}
	if at < 0 || at > len(b) || e == api.OK && at != 0 {
		t.Errorf("ReadXML(%.2000q): place %d", b, at)
	}
	if e == api.OK {
		holdModel(t, m)
	}
	return wantErr
}

// holdModel holds the other functions against what is wanted of a model, and tells the error that is wanted.
func holdModel(t *testing.T, m api.Model) api.Errno {
	t.Helper()
	wantErr := model.Validate(m)
	var want []api.Elem
	wantDoc := ""
	if wantErr == api.OK {
		want = wantTree(t, m)
		wantDoc, _ = tree.Write(want)
	}
	l, e := ToTree(m)
	if e != wantErr || !sameTree(l, want) {
		t.Errorf("ToTree(%s): %s %v, want %s %v", brief(m), brief(l), e, brief(want), wantErr)
	}
	doc, e := WriteXML(m)
	if e != wantErr || doc != wantDoc {
		t.Errorf("WriteXML(%s): %s %v, want %s %v", brief(m), doc, e, wantDoc, wantErr)
	}
	if wantErr != api.OK {
		return wantErr
	}
	if back, at, e := ReadXML(doc); e != api.OK || at != 0 || !model.Same(back, m) {
		t.Errorf("ReadXML(%s): %s %d %v, want %s", doc, brief(back), at, e, brief(m))
	}
	if back, at, e := FromTree(l); e != api.OK || at != 0 || !model.Same(back, m) {
		t.Errorf("FromTree(%s): %s %d %v, want %s", brief(l), brief(back), at, e, brief(m))
	}
	return api.OK
}

// brief is the beginning of what a thing looks like.
func brief(v any) string {
	return fmt.Sprintf("%.2000s", fmt.Sprintf("%+v", v))
}
