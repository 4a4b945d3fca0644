package bind

import (
	"slices"
	"strings"

	"tariff/api"
	"tariff/kind"
)

// writer is the tree of a valid model, as far as it is made.
type writer struct {
	tree []api.Elem
}

func (w *writer) definitions(m api.Model) {
	top := w.put(-1, "definitions", attr("xmlns", api.Space), attr("id", m.Id), attr("name", m.Name))
	for _, i := range m.Items {
		name, _ := kind.Name(i.Type)
		at := w.put(top, "itemDefinition", attr("name", i.Name), attr("typeRef", name))
		if i.Allowed != "" {
			w.entry(at, "allowedValues", i.Allowed)
		}
	}
	for _, i := range m.Inputs {
		at := w.put(top, "inputData", attr("id", i.Id), attr("name", i.Name))
		w.variable(at, i.Item)
	}
	for _, d := range m.Decisions {
		w.decision(top, m, d)
	}
}

// variable writes the item of what an input or a decision stands for.
func (w *writer) variable(up int, item string) {
	if item != "" {
		w.put(up, "variable", typeRef(item)...)
	}
}

func (w *writer) decision(up int, m api.Model, d api.Decision) {
	at := w.put(up, "decision", attr("id", d.Id), attr("name", d.Name))
	w.variable(at, d.Item)
	for _, id := range d.Needs {
		what := "requiredDecision"
		if slices.ContainsFunc(m.Inputs, func(i api.Input) bool { return i.Id == id }) {
			what = "requiredInput"
		}
		w.put(w.put(at, "informationRequirement"), what, attr("href", "#"+id))
	}
	if d.Text != "" {
		w.entry(at, "literalExpression", d.Text)
		return
	}
	w.table(at, d.Table)
}

func (w *writer) table(up int, t api.Table) {
	p := policies[t.Policy]
	attrs := []api.Attr{attr("hitPolicy", p.hit)}
	if p.aggregation != "" {
		attrs = append(attrs, attr("aggregation", p.aggregation))
	}
	at := w.put(up, "decisionTable", attrs...)
	for _, c := range t.Ins {
		w.entry(w.put(at, "input"), "inputExpression", c.Text, typeRef(c.Item)...)
	}
	for i, c := range t.Outs {
		out := w.output(at, c)
		if len(t.Default) > 0 {
			w.entry(out, "defaultOutputEntry", t.Default[i])
		}
	}
	for _, r := range t.Rules {
		w.rule(at, r)
	}
}

// output writes an output column but for its default, and tells its place.
func (w *writer) output(up int, c api.Column) int {
	at := w.put(up, "output", append([]api.Attr{attr("name", c.Text)}, typeRef(c.Item)...)...)
	if len(c.Values) > 0 {
		values := w.put(at, "outputValues")
		for _, s := range c.Values {
			w.text(values, s)
		}
	}
	return at
}

func (w *writer) rule(up int, r api.Rule) {
	at := w.put(up, "rule")
	for _, s := range r.Tests {
		w.entry(at, "inputEntry", s)
	}
	for _, s := range r.Says {
		w.entry(at, "outputEntry", s)
	}
}

// put adds an element within one that is there, and tells its place.
func (w *writer) put(up int, name string, attrs ...api.Attr) int {
	w.tree = append(w.tree, api.Elem{Name: name, Up: up, Attrs: attrs})
	return len(w.tree) - 1
}

// entry adds an element that contains a text.
func (w *writer) entry(up int, name, s string, attrs ...api.Attr) {
	w.text(w.put(up, name, attrs...), s)
}

func (w *writer) text(up int, s string) {
	at := w.put(up, "text")
	w.tree[at].Text = strings.Clone(s)
}

func attr(name, value string) api.Attr {
	return api.Attr{Name: name, Value: strings.Clone(value)}
}

// typeRef is the attribute that names an item, if there is one.
func typeRef(item string) []api.Attr {
	if item == "" {
		return nil
	}
	return []api.Attr{attr("typeRef", item)}
}
