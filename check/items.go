package check

import "tariff/api"

// item is a node that is complete with its parts: the type of an expression, or what tests ask
// of a value's type.
type item struct {
	own  api.Type
	asks []ask
}

// ask is a requirement: that a type is ordered with this one, or only that it meets it.
type ask struct {
	of      api.Type
	ordered bool
}

func (a ask) takes(t api.Type) bool {
	if a.ordered {
		return ordered(t, a.of)
	}
	return meets(t, a.of)
}

// fits tells whether the tests fit a type.
func (tests item) fits(t api.Type) bool {
	for _, a := range tests.asks {
		if !a.takes(t) {
			return false
		}
	}
	return true
}

// determine is the last node, or the error of the first that has one.
func (known scope) determine(nodes []api.Node) (item, api.Errno) {
	var done []item
	for _, n := range nodes {
		rest := len(done) - n.Kids
		parts := done[rest:]
		own, e := known.typeOf(n, typesOf(parts))
		if e == api.OK && n.Op == api.OIn && !parts[1].fits(parts[0].own) {
			e = api.ErrType
		}
		if e != api.OK {
			return item{}, e
		}
		done = append(done[:rest], item{own, asksOf(n.Op, parts)})
	}
	return done[0], api.OK
}

func typesOf(items []item) []api.Type {
	var types []api.Type
	for _, i := range items {
		types = append(types, i.own)
	}
	return types
}

// asksOf is what a node with these parts asks of a value's type, if it is of tests.
func asksOf(op int, parts []item) []ask {
	var asks []ask
	for _, p := range parts {
		switch op {
		case api.OIs, api.OBelow, api.OAtMost, api.OAbove, api.OAtLeast, api.OSpan:
			asks = append(asks, ask{p.own, op != api.OIs})
		case api.OSome, api.ONot:
			asks = append(asks, p.asks...)
		}
	}
	return asks
}
