package show

import (
	"strings"

	"tariff/api"
	"tariff/chars"
	"tariff/date"
	"tariff/dec"
)

// piece is the text of a node with its parts.
type piece struct {
	text  string
	level int
}

// The levels that the parts of some nodes require.
const (
	sumLevel  = 4
	negLevel  = 6
	pathLevel = 7
)

// in is the text of a piece in a position that requires a level.
func (p piece) in(level int) string {
	if p.level < level {
		return "(" + p.text + ")"
	}
	return p.text
}

// level is how tightly a node holds its parts together.
func level(op int) int {
	switch op {
	case api.OIf:
		return 0
	case api.OOr:
		return 1
	case api.OAnd:
		return 2
	case api.OEq, api.ONe, api.OLt, api.OLe, api.OGt, api.OGe, api.OBetween, api.OIn:
		return 3
	case api.OAdd, api.OSub:
		return 4
	case api.OMul, api.ODiv:
		return 5
	case api.ONeg:
		return 6
	}
	return 7
}

// write is the text of a node, given those of its parts.
func write(n api.Node, parts []piece) string {
	switch n.Op {
	case api.ONeg:
		return "-" + parts[0].in(negLevel)
	case api.OPath:
		return parts[0].in(pathLevel) + "." + n.Text
	case api.OIf:
		return "if " + parts[0].text + " then " + parts[1].text + " else " + parts[2].text
	case api.OBetween:
		return parts[0].in(sumLevel) + " between " + parts[1].in(sumLevel) + " and " + parts[2].in(sumLevel)
	case api.OIn:
		return parts[0].in(sumLevel) + " in (" + parts[1].text + ")"
	case api.OCall:
		return n.Text + "(" + join(parts) + ")"
	case api.OList:
		return "[" + join(parts) + "]"
	case api.OCtx:
		return "{" + join(parts) + "}"
	case api.OEntry:
		return n.Text + ": " + parts[0].text
	}
	if len(parts) == 0 {
		return leaf(n)
	}
	if sign := infix(n.Op); sign != "" {
		left, right := sides(n.Op)
		return parts[0].in(left) + sign + parts[1].in(right)
	}
	return test(n, parts)
}

// leaf is the text of a node without parts that may not have any.
func leaf(n api.Node) string {
	switch n.Op {
	case api.ONull:
		return "null"
	case api.OTrue:
		return "true"
	case api.OFalse:
		return "false"
	case api.ONum:
		digits, _ := dec.Print(n.Num)
		return digits
	case api.OText:
		quoted, _ := chars.Quote(n.Text)
		return quoted
	case api.ODate:
		day, _ := date.Print(n.Day)
		return `@"` + day + `"`
	case api.OAny:
		return "-"
	}
	return n.Text
}

// infix is what stands between the two parts of a node; empty if it is no such node.
func infix(op int) string {
	switch op {
	case api.OOr:
		return " or "
	case api.OAnd:
		return " and "
	case api.OEq:
		return " = "
	case api.ONe:
		return " != "
	case api.OLt:
		return " < "
	case api.OLe:
		return " <= "
	case api.OGt:
		return " > "
	case api.OGe:
		return " >= "
	case api.OAdd:
		return " + "
	case api.OSub:
		return " - "
	case api.OMul:
		return " * "
	case api.ODiv:
		return " / "
	}
	return ""
}

// sides is the levels that a node requires of the part on its left and on its right.
func sides(op int) (left, right int) {
	own := level(op)
	switch op {
	case api.OOr, api.OAnd, api.OAdd, api.OSub, api.OMul, api.ODiv:
		// These are grouped from the left, so only what stands there may be of the same level.
		return own, own + 1
	}
	return own + 1, own + 1
}

// test is the text of a test, or of tests.
func test(n api.Node, parts []piece) string {
	switch n.Op {
	case api.OBelow:
		return "< " + parts[0].in(sumLevel)
	case api.OAtMost:
		return "<= " + parts[0].in(sumLevel)
	case api.OAbove:
		return "> " + parts[0].in(sumLevel)
	case api.OAtLeast:
		return ">= " + parts[0].in(sumLevel)
	case api.OSpan:
		return n.Text[:1] + parts[0].in(sumLevel) + ".." + parts[1].in(sumLevel) + n.Text[1:]
	case api.OSome:
		return join(parts)
	case api.ONot:
		return "not(" + parts[0].text + ")"
	}
	return parts[0].in(sumLevel) // OIs
}

// join is the texts of pieces, separated by a comma and a blank.
func join(parts []piece) string {
	texts := make([]string, len(parts))
	for i, p := range parts {
		texts[i] = p.text
	}
	return strings.Join(texts, ", ")
}
