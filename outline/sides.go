package outline

// side is an edge around a cell: where it begins, and its direction.
type side struct{ at, way complex128 }

// sides is those that are on no line yet.
type sides map[side]struct{}

// sidesOf is the sides of a set of cells.
func sidesOf(cells []complex128) sides {
	set := make(map[complex128]struct{})
	for _, p := range cells {
		set[p] = struct{}{}
	}
	s := make(sides)
	for p := range set {
		at, way := p, complex128(1)
		for range 4 {
			// The cell is on the side's left, so what lies across the side is on its right.
			if _, ok := set[p+way*-1i]; !ok {
				s[side{at, way}] = struct{}{}
			}
			at += way
			way *= 1i
		}
	}
	return s
}

// has tells whether a side is on no line yet.
func (s sides) has(at, way complex128) bool {
	_, ok := s[side{at, way}]
	return ok
}

// lines takes all sides off, line by line. A line takes the first one that is left, so one turn through the points is enough.
func (s sides) lines(a area) [][]complex128 {
	var lines [][]complex128
	for n := range a.size() {
		// No point of a line is less than its first one, so the first side leads to the right or up.
		for _, way := range []complex128{1, 1i} {
			if s.has(a.cell(n), way) {
				lines = append(lines, s.line(a.cell(n), way))
			}
		}
	}
	return lines
}

// line takes the sides of a line off, from its first one on, and answers its corners.
func (s sides) line(start, way complex128) []complex128 {
	// A line's first point is its least one, so it is a corner, and the line comes back to it once, at its end.
	corners, at := []complex128{start}, start
along:
	delete(s, side{at, way})
	at += way
	if at == start {
		return corners
	}
	turned := way * 1i
	for !s.has(at, turned) {
		turned *= -1i
	}
	if turned != way {
		corners = append(corners, at)
	}
	way = turned
	goto along
}
