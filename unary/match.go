package unary

import (
	"tariff/api"
	"tariff/value"
)

// What the functions of value answer besides is OK: whatever is handed to them here is in form.

// match is the result of plain tests for a value.
func match(nodes []api.Node, v api.Value) api.Value {
	ends := literals(nodes)
	result := api.Value{Kind: api.Bool}
	for _, n := range nodes {
		switch n.Op {
		case api.OAny:
			result.Yes = true
		case api.OIs, api.OBelow, api.OAtMost, api.OAbove, api.OAtLeast, api.OSpan:
			// All tests are parts of one OSome, so their results are taken together at once.
			result, _ = value.Or(result, passes(n, v, ends[:n.Kids]))
			ends = ends[n.Kids:]
		case api.ONot:
			result = not(result)
		}
	}
	return result
}

// passes is the result of a test of these literals.
func passes(test api.Node, v api.Value, ends []api.Value) api.Value {
	switch test.Op {
	case api.OBelow:
		return less(v, ends[0])
	case api.OAtMost:
		return not(less(ends[0], v))
	case api.OAbove:
		return less(ends[0], v)
	case api.OAtLeast:
		return not(less(v, ends[0]))
	case api.OSpan:
		from, to := sides(test.Text)
		result, _ := value.And(passes(from, v, ends[:1]), passes(to, v, ends[1:]))
		return result
	}
	result, _ := value.Equal(v, ends[0])
	return result
}

// sides is the two tests that an interval with these brackets consists of.
func sides(brackets string) (from, to api.Node) {
	from, to = api.Node{Op: api.OAbove}, api.Node{Op: api.OBelow}
	if brackets[0] == '[' {
		from.Op = api.OAtLeast
	}
	if brackets[1] == ']' {
		to.Op = api.OAtMost
	}
	return from, to
}

func less(a, b api.Value) api.Value {
	result, _ := value.Less(a, b)
	return result
}

func not(a api.Value) api.Value {
	result, _ := value.Not(a)
	return result
}
