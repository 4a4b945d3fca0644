package hit

import (
	"slices"

	"tariff/api"
	"tariff/chars"
	"tariff/value"
)

// inForm tells whether what Decide is handed is in form.
func inForm(names []string, order, rows [][]api.Value, other []api.Value) bool {
	return len(names) > 0 && len(names) == len(order) && sized(order, rows) && distinct(names) &&
		(len(other) == 0 || len(other) == len(names)) && checked(other)
}

// sized tells whether neither order nor rows is too much, each row has a value for each list of
// order, and all values are in form.
func sized(order, rows [][]api.Value) bool {
	return len(order) <= api.MaxCols && len(rows) <= api.MaxRules &&
		all(order, func(list []api.Value) bool { return len(list) <= api.MaxRules && checked(list) }) &&
		all(rows, func(row []api.Value) bool { return len(row) == len(order) && checked(row) })
}

// distinct tells whether all are names, and none occurs twice.
func distinct(names []string) bool {
	for i, name := range names {
		if !chars.Name(name) || slices.Contains(names[:i], name) {
			return false
		}
	}
	return true
}

// checked tells whether all values are accepted.
func checked(list []api.Value) bool {
	return all(list, func(v api.Value) bool { return value.Check(v) == api.OK })
}

// all tells whether something holds for each of some things.
func all[T any](things []T, holds func(T) bool) bool {
	return !slices.ContainsFunc(things, func(thing T) bool { return !holds(thing) })
}
