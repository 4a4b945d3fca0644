package hit

import (
	"slices"
	"strings"

	"tariff/api"
	"tariff/dec"
	"tariff/value"
)

// table is the names of outputs, the order of what they may be, and the rows that they make up.
// It is in form; what it answers may share memory with it.
type table struct {
	names       []string
	order, rows [][]api.Value
}

// decide is what the rows come to under a policy.
func (t table) decide(policy int) (api.Value, api.Errno) {
	switch policy {
	case api.RuleOrder, api.Collect:
		return t.list(), api.OK
	case api.OutOrder:
		return t.sorted().list(), api.OK
	case api.CollectNum:
		return api.Value{Kind: api.Num, Num: dec.Of(len(t.rows))}, api.OK
	}
	if len(t.rows) == 0 {
		return api.Value{}, api.OK
	}
	switch policy {
	case api.Unique:
		if len(t.rows) > 1 {
			return api.Value{}, api.ErrUnique
		}
	case api.Any:
		if !t.agree() {
			return api.Value{}, api.ErrAny
		}
	case api.Priority:
		t = t.sorted()
	case api.CollectSum, api.CollectMin, api.CollectMax:
		return t.fold(policy)
	}
	return t.whole(t.rows[0]), api.OK
}

// whole is the value of a row.
func (t table) whole(row []api.Value) api.Value {
	if len(t.names) == 1 {
		return row[0]
	}
	return api.Value{Kind: api.Ctx, List: row, Names: t.names}
}

// list is the values of all rows.
func (t table) list() api.Value {
	v := api.Value{Kind: api.List}
	for _, row := range t.rows {
		v.List = append(v.List, t.whole(row))
	}
	return v
}

// sorted is the table with its rows by rank.
func (t table) sorted() table {
	var rows [][]api.Value
	for _, at := range byRank(t.order, t.rows) {
		rows = append(rows, t.rows[at])
	}
	t.rows = rows
	return t
}

// agree tells whether all rows are the same.
func (t table) agree() bool {
	return all(t.rows[1:], func(row []api.Value) bool { return slices.EqualFunc(row, t.rows[0], value.Same) })
}

// fold is the sum, the least or the greatest of the only values of the rows; null if one of them
// is no number.
func (t table) fold(policy int) (api.Value, api.Errno) {
	if !all(t.rows, func(row []api.Value) bool { return row[0].Kind == api.Num }) {
		return api.Value{}, api.OK
	}
	result := t.rows[0][0]
	for _, row := range t.rows[1:] {
		n, e := merge(policy, result.Num, row[0].Num)
		if e != api.OK {
			return api.Value{}, e
		}
		result.Num = n
	}
	return result, api.OK
}

// merge is the sum, the least or the greatest of two numbers.
func merge(policy int, a, b api.Dec) (api.Dec, api.Errno) {
	if policy == api.CollectSum {
		return dec.Add(a, b)
	}
	side, _ := dec.Cmp(a, b) // value.Check has found both in form
	if policy == api.CollectMin && side > 0 || policy == api.CollectMax && side < 0 {
		return b, api.OK
	}
	return a, api.OK
}

// clone is a value that shares no memory with v, nor any two of its lists with each other.
func clone(v api.Value) api.Value {
	v.Text = strings.Clone(v.Text)
	v.List, v.Names = slices.Clone(v.List), slices.Clone(v.Names)
	for i := range v.List {
		v.List[i] = clone(v.List[i])
	}
	for i := range v.Names {
		v.Names[i] = strings.Clone(v.Names[i])
	}
	return v
}
