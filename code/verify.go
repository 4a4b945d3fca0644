package code

import "tariff/api"

// mostArgs is how many arguments a call may have.
const mostArgs = 8

// state is what the machine holds ahead of an instruction.
type state struct {
	height, entered int
}

// traverse follows code from its beginning to its end, and tells the greatest height; false if
// it isn't sound.
func traverse(code []api.Ins, begin state) (int, bool) {
	end := len(code)
	states := map[int]state{0: begin}
	highest := begin.height
	// Jumps lead forward only: when it comes to an index, all that leads there has been followed.
	for at, ins := range code {
		now, reached := states[at]
		next, fine := now.after(ins)
		if !reached || !fine || !allowed(ins, at, end) {
			return 0, false
		}
		highest = max(highest, next.height)
		for _, to := range targets(ins, at) {
			if other, ok := states[to]; ok && other != next {
				return 0, false
			}
			states[to] = next
		}
	}
	last, reached := states[end]
	return highest, reached && last == state{1, begin.entered}
}

// after is what an instruction leaves; false if it doesn't find what it requires.
func (s state) after(ins api.Ins) (state, bool) {
	n, known := pops(ins)
	if !known || n > s.height || inTests(ins.Op) && s.entered < 1 {
		return state{}, false
	}
	s.height -= n
	switch ins.Op {
	case api.IEnter:
		s.entered++
	case api.ILeave:
		s.entered--
	case api.IJump, api.IUnless:
	default:
		s.height++
	}
	return s, true
}

// pops is how many values an instruction takes off the stack; false if there is no such instruction.
func pops(ins api.Ins) (int, bool) {
	switch ins.Op {
	case api.ONull, api.OTrue, api.OFalse, api.ONum, api.OText, api.ODate, api.OName, api.OAny,
		api.IJump, api.ILeave:
		return 0, true
	case api.ONeg, api.OPath, api.OEntry, api.ONot, api.OIs, api.OBelow, api.OAtMost, api.OAbove, api.OAtLeast,
		api.IUnless, api.IEnter:
		return 1, true
	case api.OAdd, api.OSub, api.OMul, api.ODiv, api.OEq, api.ONe, api.OLt, api.OLe, api.OGt, api.OGe,
		api.OAnd, api.OOr, api.OSpan:
		return 2, true
	case api.OBetween:
		return 3, true
	case api.OCall, api.OList, api.OCtx, api.OSome:
		return ins.A, true
	}
	return 0, false
}

// inTests tells whether an instruction requires that tests have been entered.
func inTests(op int) bool {
	switch op {
	case api.OIs, api.OBelow, api.OAtMost, api.OAbove, api.OAtLeast, api.OSpan, api.ILeave:
		return true
	}
	return false
}

// allowed tells whether the A of the instruction at an index may be what it is, in code of that length.
func allowed(ins api.Ins, at, end int) bool {
	switch ins.Op {
	case api.OCall:
		return ins.A >= 0 && ins.A <= mostArgs
	case api.OList, api.OCtx:
		return ins.A >= 0
	case api.OSome:
		return ins.A >= 1
	case api.IJump, api.IUnless:
		return ins.A > at && ins.A <= end
	}
	return ins.A == 0
}

// targets is the indices to which the instruction at an index leads.
func targets(ins api.Ins, at int) []int {
	switch ins.Op {
	case api.IJump:
		return []int{ins.A}
	case api.IUnless:
		return []int{at + 1, ins.A}
	}
	return []int{at + 1}
}
