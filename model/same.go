package model

import (
	"slices"

	"tariff/api"
)

func sameDecision(a, b api.Decision) bool {
	return a.Id == b.Id && a.Name == b.Name && a.Item == b.Item && slices.Equal(a.Needs, b.Needs) &&
		a.Text == b.Text && sameTable(a.Table, b.Table)
}

func sameTable(a, b api.Table) bool {
	return a.Policy == b.Policy && slices.EqualFunc(a.Ins, b.Ins, sameColumn) && slices.EqualFunc(a.Outs, b.Outs, sameColumn) &&
		slices.EqualFunc(a.Rules, b.Rules, sameRule) && slices.Equal(a.Default, b.Default)
}

func sameColumn(a, b api.Column) bool {
	return a.Text == b.Text && a.Item == b.Item && slices.Equal(a.Values, b.Values)
}

func sameRule(a, b api.Rule) bool {
	return slices.Equal(a.Tests, b.Tests) && slices.Equal(a.Says, b.Says)
}
