package sweep

import (
	"iter"
	"slices"

	"tariff/api"
	"tariff/plane"
)

// grid is the axes of cells. Each cell has a number: its place in the order of the cells.
type grid []int

// size is how many cells there are; if there are more than MaxCells, it is just some number above that.
func (g grid) size() int {
	if slices.Contains(g, 0) {
		return 0
	}
	n := 1
	for _, axis := range g {
		if axis > api.MaxCells/n {
			return api.MaxCells + 1
		}
		n *= axis
	}
	return n
}

// whole is the box of all cells. If there are none it is no box, since an axis of 0 makes no span.
func (g grid) whole() []complex128 {
	var box []complex128
	for _, axis := range g {
		box = append(box, span(0, axis))
	}
	return box
}

// has tells whether a list of numbers is a cell.
func (g grid) has(cell []int) bool {
	ok, _ := plane.Holds(g.whole(), cell)
	return ok
}

// number is the number of a cell.
func (g grid) number(cell []int) int {
	n := 0
	for col, axis := range g {
		n = n*axis + cell[col]
	}
	return n
}

// span is the span from a number up to another one.
func span(from, to int) complex128 {
	return complex(float64(from), float64(to))
}

// cells goes through the cells of a box in order, in one list that is counted up; what is no box has none.
func cells(box []complex128) iter.Seq[[]int] {
	return func(yield func([]int) bool) {
		if _, e := plane.Size(box); e != api.OK {
			return
		}
		var cell []int
		for _, s := range box {
			cell = append(cell, int(real(s)))
		}
	next:
		if !yield(cell) {
			return
		}
		col := len(box)
	carry:
		col--
		if col < 0 {
			return
		}
		cell[col]++
		if cell[col] < int(imag(box[col])) {
			goto next
		}
		cell[col] = int(real(box[col]))
		goto carry
	}
}
