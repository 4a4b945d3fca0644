package unary

import (
	"strings"

	"tariff/api"
	"tariff/dec"
)

// plain tells whether tests in form are tests of literals alone. A test takes expressions only,
// so it is enough to look at the nodes one by one.
func plain(nodes []api.Node) bool {
	for i, n := range nodes {
		switch {
		case isLiteral(n.Op) || ofTests(n.Op):
		case n.Op == api.ONeg && nodes[i-1].Op == api.ONum:
		default:
			return false
		}
	}
	return true
}

// isLiteral tells whether a node is a literal by itself.
func isLiteral(op int) bool {
	switch op {
	case api.OTrue, api.OFalse, api.ONum, api.OText, api.ODate:
		return true
	}
	return false
}

// ofTests tells whether a node is a test, or puts tests together: these operations come last.
func ofTests(op int) bool {
	return op >= api.OAny
}

// literals is the values of the literals of plain tests.
func literals(nodes []api.Node) []api.Value {
	var list []api.Value
	for _, n := range nodes {
		switch {
		case isLiteral(n.Op):
			list = append(list, literal(n))
		case n.Op == api.ONeg:
			last := &list[len(list)-1].Num
			*last, _ = dec.Neg(*last) // expr.Check has found it in form
		}
	}
	return list
}

// literal is the value of a node that is a literal by itself.
func literal(n api.Node) api.Value {
	switch n.Op {
	case api.ONum:
		return api.Value{Kind: api.Num, Num: n.Num}
	case api.OText:
		return api.Value{Kind: api.Text, Text: strings.Clone(n.Text)}
	case api.ODate:
		return api.Value{Kind: api.Date, Day: n.Day}
	}
	return api.Value{Kind: api.Bool, Yes: n.Op == api.OTrue}
}

// listing tells whether plain tests do nothing but list values.
func listing(nodes []api.Node) bool {
	for _, n := range nodes {
		if ofTests(n.Op) && n.Op != api.OIs && n.Op != api.OSome {
			return false
		}
	}
	return true
}
