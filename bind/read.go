package bind

import (
	"strings"

	"tariff/api"
	"tariff/kind"
)

// reader makes a model of a tree without faults.
type reader struct {
	document
	own bool // the model's texts are copies
}

// model is the model of the tree.
func (r reader) model() api.Model {
	return api.Model{
		Id: r.attr(0, "id"), Name: r.attr(0, "name"),
		Items:     each(r.all(0, "itemDefinition"), r.item),
		Inputs:    each(r.all(0, "inputData"), r.input),
		Decisions: each(r.all(0, "decision"), r.decision),
	}
}

func (r reader) item(at int) api.Item {
	t, _ := kind.Parse(r.attr(at, "typeRef")) // a name of a type: else it were a fault
	return api.Item{Name: r.attr(at, "name"), Type: t, Allowed: r.said(at, "allowedValues")}
}

func (r reader) input(at int) api.Input {
	return api.Input{Id: r.attr(at, "id"), Name: r.attr(at, "name"), Item: r.variable(at)}
}

func (r reader) decision(at int) api.Decision {
	d := api.Decision{
		Id: r.attr(at, "id"), Name: r.attr(at, "name"), Item: r.variable(at),
		Needs: each(r.all(at, "informationRequirement"), r.need),
		Text:  r.said(at, "literalExpression"),
	}
	for _, k := range r.all(at, "decisionTable") {
		d.Table = r.table(k)
	}
	return d
}

// variable is the item of what an input or a decision stands for.
func (r reader) variable(at int) string {
	return first(each(r.all(at, "variable"), r.typeRef))
}

// need is the id of what is required.
func (r reader) need(at int) string {
	return strings.TrimPrefix(r.attr(r.kids[at][0], "href"), "#")
}

func (r reader) table(at int) api.Table {
	t := api.Table{
		Policy: policyOf(r.attr(at, "hitPolicy"), r.attr(at, "aggregation")),
		Ins:    each(r.all(at, "input"), r.in),
		Outs:   each(r.all(at, "output"), r.out),
		Rules:  each(r.all(at, "rule"), r.rule),
	}
	for _, k := range r.all(at, "output") {
		t.Default = append(t.Default, each(r.all(k, "defaultOutputEntry"), r.text)...)
	}
	return t
}

func (r reader) in(at int) api.Column {
	k := r.kids[at][0]
	return api.Column{Text: r.text(k), Item: r.typeRef(k)}
}

func (r reader) out(at int) api.Column {
	c := api.Column{Text: r.attr(at, "name"), Item: r.typeRef(at)}
	for _, k := range r.all(at, "outputValues") {
		c.Values = each(r.kids[k], r.characters)
	}
	return c
}

func (r reader) rule(at int) api.Rule {
	return api.Rule{Tests: each(r.all(at, "inputEntry"), r.text), Says: each(r.all(at, "outputEntry"), r.text)}
}

// said is the text in the element with a name, if there is one.
func (r reader) said(at int, name string) string {
	return first(each(r.all(at, name), r.text))
}

// text is the characters of the text in an element.
func (r reader) text(at int) string {
	return r.characters(r.kids[at][0])
}

func (r reader) characters(at int) string {
	return r.copied(r.tree[at].Text)
}

func (r reader) typeRef(at int) string {
	return r.attr(at, "typeRef")
}

// attr is the value of an attribute; "" if there is none.
func (r reader) attr(at int, name string) string {
	s, _ := r.value(at, name)
	return r.copied(s)
}

func (r reader) copied(s string) string {
	if r.own {
		return strings.Clone(s)
	}
	return s
}

// each is what is made of some elements, in order.
func each[T any](places []int, made func(at int) T) []T {
	var list []T
	for _, at := range places {
		list = append(list, made(at))
	}
	return list
}

// first is the first of some texts; "" if there is none.
func first(list []string) string {
	if len(list) == 0 {
		return ""
	}
	return list[0]
}
