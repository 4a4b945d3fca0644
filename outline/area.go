package outline

import (
	"math"

	"tariff/api"
)

// area is a plane: how many columns and rows it has.
type area struct{ wide, high int }

// check tells what is wrong with a plane, or with how many elements are given for it.
func (a area) check(elements int) api.Errno {
	switch {
	case a.wide < 0 || a.high < 0:
		return api.ErrArg
	case a.wide > 0 && a.high > api.MaxCells/a.wide || elements > api.MaxCells:
		return api.ErrLong
	}
	return api.OK
}

// size is how many cells a plane has.
func (a area) size() int {
	return a.wide * a.high
}

// cell is a cell by its number, column by column.
func (a area) cell(n int) complex128 {
	return complex(float64(n/a.high), float64(n%a.high))
}

// isCell tells whether a point is a cell.
func (a area) isCell(p complex128) bool {
	return whole(real(p), a.wide-1) && whole(imag(p), a.high-1)
}

// isPoint tells whether a point is the corner of a cell, or would be if there were some.
func (a area) isPoint(p complex128) bool {
	return whole(real(p), a.wide) && whole(imag(p), a.high)
}

// whole tells whether a number is a whole one from 0 to another. NaN is not, since it equals nothing.
func whole(x float64, most int) bool {
	// Held against one another as whole numbers, since not every int is a float.
	return x == math.Trunc(x) && x >= 0 && x < 1<<63 && int64(x) <= int64(most)
}

// isLine tells whether a line runs along the edges of cells.
func (a area) isLine(line []complex128) bool {
	for i, p := range line {
		q := next(line, i)
		if !a.isPoint(p) || real(p) != real(q) && imag(p) != imag(q) {
			return false
		}
	}
	return true
}

// next is the point to which a point of a line is joined.
func next(line []complex128, i int) complex128 {
	return line[(i+1)%len(line)]
}
