package desk

import (
	"strings"

	"tariff/api"
)

// The functions below copy what they are named after, lists and texts with it, so that what is answered
// shares no memory with what was given.

func listOf[T any](list []T, thing func(T) T) []T {
	var out []T
	for _, x := range list {
		out = append(out, thing(x))
	}
	return out
}

func textsOf(list []string) []string {
	return listOf(list, strings.Clone)
}

func modelOf(m api.Model) api.Model {
	return api.Model{
		Id:        strings.Clone(m.Id),
		Name:      strings.Clone(m.Name),
		Items:     listOf(m.Items, itemOf),
		Inputs:    listOf(m.Inputs, inputOf),
		Decisions: listOf(m.Decisions, decisionOf),
	}
}

func itemOf(i api.Item) api.Item {
	return api.Item{Name: strings.Clone(i.Name), Type: i.Type, Allowed: strings.Clone(i.Allowed)}
}

func inputOf(i api.Input) api.Input {
	return api.Input{Id: strings.Clone(i.Id), Name: strings.Clone(i.Name), Item: strings.Clone(i.Item)}
}

func decisionOf(d api.Decision) api.Decision {
	return api.Decision{
		Id:    strings.Clone(d.Id),
		Name:  strings.Clone(d.Name),
		Item:  strings.Clone(d.Item),
		Needs: textsOf(d.Needs),
		Text:  strings.Clone(d.Text),
		Table: tableOf(d.Table),
	}
}

func tableOf(t api.Table) api.Table {
	return api.Table{
		Policy:  t.Policy,
		Ins:     listOf(t.Ins, columnOf),
		Outs:    listOf(t.Outs, columnOf),
		Rules:   listOf(t.Rules, ruleOf),
		Default: textsOf(t.Default),
	}
}

func columnOf(c api.Column) api.Column {
	return api.Column{Text: strings.Clone(c.Text), Item: strings.Clone(c.Item), Values: textsOf(c.Values)}
}

func ruleOf(r api.Rule) api.Rule {
	return api.Rule{Tests: textsOf(r.Tests), Says: textsOf(r.Says)}
}
