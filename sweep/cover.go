package sweep

import (
	"iter"
	"slices"
)

// cover goes through the boxes that cover a set of cells, in the order in which they are made.
func (g grid) cover(set []bool) iter.Seq[[]complex128] {
	return func(yield func([]complex128) bool) {
		open := slices.Clone(set) // the cells that are in no box yet
		for cell := range cells(g.whole()) {
			if !open[g.number(cell)] {
				continue
			}
			box := g.grow(cell, open)
			for inner := range cells(box) {
				open[g.number(inner)] = false
			}
			if !yield(box) {
				return
			}
		}
	}
}

// first is the first box of the cover of a set that has cells.
func (g grid) first(set []bool) []complex128 {
	for box := range g.cover(set) {
		return box
	}
	return nil
}

// grow is the box from an open cell on, as far up in each column as it has open cells alone.
func (g grid) grow(from []int, open []bool) []complex128 {
	box := []complex128{}
	for _, n := range from {
		box = append(box, span(n, n+1))
	}
	for col := len(box) - 1; col >= 0; col-- {
		for g.extends(box, col, open) {
			box[col] += 1i
		}
	}
	return box
}

// extends tells whether a box may go on by one number in a column.
func (g grid) extends(box []complex128, col int, open []bool) bool {
	n := int(imag(box[col]))
	if n == g[col] {
		return false
	}
	more := slices.Clone(box) // what comes to the box
	more[col] = span(n, n+1)
	for cell := range cells(more) {
		if !open[g.number(cell)] {
			return false
		}
	}
	return true
}
