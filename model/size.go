package model

import (
	"slices"

	"tariff/api"
)

// extra is what a text weighs besides its length.
const extra = 20

// weigh is what some texts weigh.
func weigh(texts ...string) int {
	sum := 0
	for _, s := range texts {
		sum += len(s) + extra
	}
	return sum
}

func tableWeight(t api.Table) int {
	sum := columnsWeight(t.Ins) + columnsWeight(t.Outs) + weigh(t.Default...)
	for _, r := range t.Rules {
		sum += weigh(r.Tests...) + weigh(r.Says...)
	}
	return sum
}

func columnsWeight(columns []api.Column) int {
	sum := 0
	for _, c := range columns {
		sum += weigh(c.Text, c.Item) + weigh(c.Values...)
	}
	return sum
}

// tooLong tells whether a model has more of something than is allowed.
func tooLong(m api.Model) bool {
	return len(m.Items) > api.MaxItems || len(m.Inputs) > api.MaxItems || len(m.Decisions) > api.MaxItems ||
		slices.ContainsFunc(m.Decisions, longDecision) || Weight(m) > api.MaxWeight
}

func longDecision(d api.Decision) bool {
	return len(d.Needs) > api.MaxNeeds || longTable(d.Table)
}

func longTable(t api.Table) bool {
	return len(t.Ins) > api.MaxCols || len(t.Outs) > api.MaxCols || len(t.Default) > api.MaxCols || len(t.Rules) > api.MaxRules ||
		slices.ContainsFunc(t.Ins, longColumn) || slices.ContainsFunc(t.Outs, longColumn) || slices.ContainsFunc(t.Rules, longRule)
}

func longColumn(c api.Column) bool {
	return len(c.Values) > api.MaxRules
}

func longRule(r api.Rule) bool {
	return len(r.Tests) > api.MaxCols || len(r.Says) > api.MaxCols
}
