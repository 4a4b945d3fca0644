package model

import (
	"slices"
	"strings"

	"tariff/api"
	"tariff/graph"
)

// find is the name and the type of the input or decision with an id; false if there is none.
func find(m api.Model, id string) (api.Sym, bool) {
	for _, i := range m.Inputs {
		if i.Id == id {
			return api.Sym{Name: strings.Clone(i.Name), Type: typeOf(m, i.Item)}, true
		}
	}
	if at := decisionAt(m, id); at >= 0 {
		d := m.Decisions[at]
		return api.Sym{Name: strings.Clone(d.Name), Type: typeOf(m, d.Item)}, true
	}
	return api.Sym{}, false
}

// decisionAt is the place of the decision with an id; negative if there is none.
func decisionAt(m api.Model, id string) int {
	return slices.IndexFunc(m.Decisions, func(d api.Decision) bool { return d.Id == id })
}

// typeOf is the type of an item's text that stands for one.
func typeOf(m api.Model, item string) api.Type {
	t, _, _ := Type(m, item)
	return t
}

// scopeOf is the names that the expressions of a decision may use.
func scopeOf(m api.Model, d api.Decision) []api.Sym {
	var names []api.Sym
	for _, id := range d.Needs {
		name, _ := find(m, id)
		names = append(names, name)
	}
	return names
}

// orderOf is the places of the decisions, each behind those that it needs.
func orderOf(m api.Model) ([]int, api.Errno) {
	needs := make([][]int, len(m.Decisions))
	for i, d := range m.Decisions {
		for _, id := range d.Needs {
			if at := decisionAt(m, id); at >= 0 {
				needs[i] = append(needs[i], at)
			}
		}
	}
	return graph.Order(needs)
}

// cyclic tells whether decisions need one another in a cycle.
func cyclic(m api.Model) bool {
	_, e := orderOf(m)
	return e == api.ErrCycle
}
