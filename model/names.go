package model

import (
	"slices"

	"tariff/api"
)

// twice tells whether one of some texts occurs twice.
func twice(list []string) bool {
	for i, s := range list {
		if slices.Contains(list[:i], s) {
			return true
		}
	}
	return false
}

// repeats tells whether a name, an id or a need occurs twice where it may not.
func repeats(m api.Model) bool {
	var items, ids, names []string
	for _, i := range m.Items {
		items = append(items, i.Name)
	}
	for _, i := range m.Inputs {
		ids, names = append(ids, i.Id), append(names, i.Name)
	}
	for _, d := range m.Decisions {
		ids, names = append(ids, d.Id), append(names, d.Name)
	}
	return twice(items) || twice(ids) || twice(names) ||
		slices.ContainsFunc(m.Decisions, func(d api.Decision) bool { return twice(d.Needs) })
}

// named tells whether each item's text and each need stands for something.
func named(m api.Model) bool {
	isItem := func(item string) bool {
		_, _, e := Type(m, item)
		return e == api.OK
	}
	isNeed := func(id string) bool {
		_, ok := find(m, id)
		return ok
	}
	ofColumn := func(c api.Column) bool { return isItem(c.Item) }
	return all(m.Inputs, func(i api.Input) bool { return isItem(i.Item) }) &&
		all(m.Decisions, func(d api.Decision) bool {
			return isItem(d.Item) && all(d.Needs, isNeed) && all(d.Table.Ins, ofColumn) && all(d.Table.Outs, ofColumn)
		})
}
