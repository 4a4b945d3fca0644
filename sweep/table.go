package sweep

import (
	"slices"

	"tariff/api"
	"tariff/axis"
	"tariff/model"
)

// table is a decision table: its cells, the segments of its columns, and of each rule the set of cells that it matches.
type table struct {
	grid
	segs  [][]axis.Seg
	rules [][]bool
}

// read is the table of a decision.
func read(m api.Model, id string) (table, api.Errno) {
	if e := model.Validate(m); e != api.OK {
		return table{}, e
	}
	at := slices.IndexFunc(m.Decisions, func(d api.Decision) bool { return d.Id == id })
	switch {
	case at < 0:
		return table{}, api.ErrName
	case m.Decisions[at].Text != "":
		return table{}, api.ErrType
	}
	var t table
	var sets [][][]int // of each column, and of each rule, the segments that it matches
	for col := range m.Decisions[at].Table.Ins {
		segs, list, e := axis.Column(m, id, col)
		if e != api.OK {
			return table{}, e
		}
		t.grid, t.segs, sets = append(t.grid, len(segs)), append(t.segs, segs), append(sets, list)
	}
	if t.size() > api.MaxCells {
		return table{}, api.ErrLong
	}
	for rule := range m.Decisions[at].Table.Rules {
		t.rules = append(t.rules, t.matched(sets, rule))
	}
	return t, api.OK
}

// matched is the set of cells that a rule matches.
func (t table) matched(sets [][][]int, rule int) []bool {
	set := make([]bool, t.size())
	for cell := range cells(t.whole()) {
		yes := true
		for col, n := range cell {
			yes = yes && slices.Contains(sets[col][rule], n)
		}
		set[t.number(cell)] = yes
	}
	return set
}

// missed is the set of cells that no rule matches.
func (t table) missed() []bool {
	set := make([]bool, t.size())
	for n := range set {
		set[n] = !slices.ContainsFunc(t.rules, func(rule []bool) bool { return rule[n] })
	}
	return set
}

// overlaps is each two rules that both match some cell.
func (t table) overlaps() []Overlap {
	var list []Overlap
	for a, first := range t.rules {
		for b := a + 1; b < len(t.rules); b++ {
			both := common(first, t.rules[b])
			if n := count(both); n > 0 {
				list = append(list, Overlap{A: a, B: b, Box: t.first(both), Cells: n})
			}
		}
	}
	return list
}

// common is the cells that are in both of two sets.
func common(a, b []bool) []bool {
	set := make([]bool, len(a))
	for n := range set {
		set[n] = a[n] && b[n]
	}
	return set
}

// count is how many cells a set has.
func count(set []bool) int {
	n := 0
	for _, yes := range set {
		if yes {
			n++
		}
	}
	return n
}
