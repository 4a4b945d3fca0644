package hit

import (
	"slices"

	"tariff/api"
	"tariff/value"
)

// byRank is the places of rows, by their ranks; of the same rank, in their order.
func byRank(order, rows [][]api.Value) []int {
	var places []int
	var ranks [][]int
	for i, row := range rows {
		places, ranks = append(places, i), append(ranks, rank(order, row))
	}
	slices.SortStableFunc(places, func(a, b int) int { return slices.Compare(ranks[a], ranks[b]) })
	return places
}

// rank is where the values of a row stand in the lists of order. A value that its list lacks
// comes behind all of that list; an empty list says nothing of any value.
func rank(order [][]api.Value, row []api.Value) []int {
	var numbers []int
	for i, list := range order {
		// value.Same looks through both values first, so it is asked only where it may hold.
		at := slices.IndexFunc(list, func(v api.Value) bool { return v.Kind == row[i].Kind && value.Same(v, row[i]) })
		if at < 0 {
			at = len(list)
		}
		numbers = append(numbers, at)
	}
	return numbers
}
