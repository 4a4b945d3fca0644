package expr

import "tariff/api"

func (p *parser) tests() {
	switch {
	case len(p.rest) == 1 && p.sign("-"):
		p.put(api.OAny, 0)
	case p.word("not"):
		p.group()
		p.put(api.ONot, 1)
	default:
		p.some()
	}
}

// group takes off tests in parentheses.
func (p *parser) group() {
	must(p.sign("("))
	p.some()
	must(p.sign(")"))
}

// some takes off tests with commas between them.
func (p *parser) some() {
	p.put(api.OSome, p.list(func() { p.test() }))
}

func (p *parser) test() {
	if op := bound(p.next()); op != 0 {
		p.skip()
		p.sum()
		p.put(op, 1)
		return
	}
	if p.interval() {
		p.span()
		return
	}
	p.sum()
	p.put(api.OIs, 1)
}

// interval tells whether a test that comes next is an interval: a .. stands right
// within the bracket that it begins with.
func (p *parser) interval() bool {
	if first := p.next(); first.Kind != api.TSign || first.Text != "[" && first.Text != "(" {
		return false
	}
	depth := 0
	for _, t := range p.rest {
		if t.Kind != api.TSign {
			continue
		}
		switch t.Text {
		case "(", "[", "{":
			depth++
		case ")", "]", "}":
			depth--
		case "..":
			if depth == 1 {
				return true
			}
		}
		if depth == 0 {
			return false
		}
	}
	return false
}

// span takes off an interval.
func (p *parser) span() {
	open := p.bracket("[", "(")
	p.sum()
	must(p.sign(".."))
	p.sum()
	p.putText(api.OSpan, 2, open+p.bracket("]", ")"))
}

// bracket takes off one of two brackets, and tells which.
func (p *parser) bracket(square, round string) string {
	if p.sign(square) {
		return square
	}
	must(p.sign(round))
	return round
}

// bound is the operation of a test that begins with a symbol; 0 if none does.
func bound(t api.Token) int {
	switch comparison(t) {
	case api.OLt:
		return api.OBelow
	case api.OLe:
		return api.OAtMost
	case api.OGt:
		return api.OAbove
	case api.OGe:
		return api.OAtLeast
	}
	return 0
}
