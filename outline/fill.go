package outline

// within is the cells of a plane for which the edges on their left that lead down are not as many as those that lead up.
func (a area) within(lines [][]complex128) []complex128 {
	down := make([]int, a.size())
	for _, line := range lines {
		for i, p := range line {
			a.count(down, p, next(line, i))
		}
	}
	var cells []complex128
	for n := range down {
		if n >= a.high {
			down[n] += down[n-a.high]
		}
		if down[n] != 0 {
			cells = append(cells, a.cell(n))
		}
	}
	return cells
}

// count adds the edges from one point to another that lead down, and takes off those that lead up.
func (a area) count(down []int, from, to complex128) {
	if int(real(from)) == a.wide {
		return // no cell is on their right
	}
	column := int(real(from)) * a.high
	for y := int(imag(to)); y < int(imag(from)); y++ {
		down[column+y]++
	}
	for y := int(imag(from)); y < int(imag(to)); y++ {
		down[column+y]--
	}
}
