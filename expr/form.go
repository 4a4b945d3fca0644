package expr

import (
	"tariff/api"
	"tariff/chars"
	"tariff/dec"
)

// item is a node that is complete with its parts: where it ends, and its depth.
type item struct {
	at, depth int
}

// The roles that an item may have.
const (
	expression = iota
	entry
	test
	group // tests separated by commas
	alone // what is never a part
)

// measure tells how deep the deepest node is; false if they are not in form.
func measure(nodes []api.Node) (int, bool) {
	var done []item
	deepest := 0
	for at, n := range nodes {
		rest := len(done) - n.Kids
		if !takes(n.Op, n.Kids) || rest < 0 || !filled(n) || !suited(nodes, n.Op, done[rest:]) {
			return 0, false
		}
		depth := 1
		for _, part := range done[rest:] {
			depth = max(depth, part.depth+1)
		}
		deepest = max(deepest, depth)
		done = append(done[:rest], item{at, depth})
	}
	return deepest, len(done) == 1
}

// takes tells whether an operation may have so many parts.
func takes(op, kids int) bool {
	switch op {
	case api.ONull, api.OTrue, api.OFalse, api.ONum, api.OText, api.ODate, api.OName, api.OAny:
		return kids == 0
	case api.ONeg, api.OPath, api.OEntry, api.OIs, api.OBelow, api.OAtMost, api.OAbove, api.OAtLeast, api.ONot:
		return kids == 1
	case api.OAdd, api.OSub, api.OMul, api.ODiv, api.OEq, api.ONe, api.OLt, api.OLe, api.OGt, api.OGe,
		api.OAnd, api.OOr, api.OIn, api.OSpan:
		return kids == 2
	case api.OIf, api.OBetween:
		return kids == 3
	case api.OCall:
		return kids >= 0 && kids <= mostArgs
	case api.OList, api.OCtx:
		return kids >= 0
	case api.OSome:
		return kids >= 1
	}
	return false
}

// mostArgs is how many arguments a call may have.
const mostArgs = 8

// filled tells whether the fields that an operation uses are allowed, and the others zero.
func filled(n api.Node) bool {
	return filledText(n) && filledNum(n) && filledDay(n)
}

func filledText(n api.Node) bool {
	switch n.Op {
	case api.OText:
		return len(n.Text) <= api.MaxText && chars.Valid(n.Text)
	case api.OName, api.OPath, api.OCall, api.OEntry:
		return chars.Name(n.Text)
	case api.OSpan:
		return n.Text == "[]" || n.Text == "[)" || n.Text == "(]" || n.Text == "()"
	}
	return n.Text == ""
}

func filledNum(n api.Node) bool {
	if n.Op == api.ONum {
		return dec.Form(n.Num) && !n.Num.Neg
	}
	return n.Num == (api.Dec{})
}

func filledDay(n api.Node) bool {
	if n.Op == api.ODate {
		return n.Day >= 1 && n.Day <= api.MaxDay
	}
	return n.Day == 0
}

// suited tells whether an operation may have these items as its parts.
func suited(nodes []api.Node, op int, parts []item) bool {
	names := map[string]int{}
	for place, part := range parts {
		n := nodes[part.at]
		if role(n.Op) != wanted(op, place) {
			return false
		}
		names[n.Text]++
	}
	return op != api.OCtx || len(names) == len(parts)
}

// role is what a node is good for.
func role(op int) int {
	switch op {
	case api.OEntry:
		return entry
	case api.OIs, api.OBelow, api.OAtMost, api.OAbove, api.OAtLeast, api.OSpan:
		return test
	case api.OSome:
		return group
	case api.OAny, api.ONot:
		return alone
	}
	return expression
}

// wanted is the role that an operation's part in that place must have.
func wanted(op, place int) int {
	switch {
	case op == api.OCtx:
		return entry
	case op == api.OSome:
		return test
	case op == api.ONot, op == api.OIn && place == 1:
		return group
	}
	return expression
}

// whole tells whether a node may be the last one.
func whole(op int, tests bool) bool {
	switch role(op) {
	case expression:
		return !tests
	case group, alone:
		return tests
	}
	return false
}
