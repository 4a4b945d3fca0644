package expr

import (
	"slices"

	"tariff/api"
)

// parser takes the tokens of a text off from the left. Each of its steps puts the nodes
// of what it takes off behind the others, and panics if the tokens go on in no way that
// the grammar allows.
type parser struct {
	rest  []api.Token // what is left
	nodes []api.Node
}

// must panics unless what is required holds.
func must(holds bool) {
	if !holds {
		panic(api.ErrText)
	}
}

// end is the nodes of the whole, which nothing may follow.
func (p *parser) end(tests bool) ([]api.Node, api.Errno) {
	must(len(p.rest) == 0)
	if e := Check(p.nodes, tests); e != api.OK {
		return nil, e
	}
	return p.nodes, api.OK
}

// put puts a node behind the others.
func (p *parser) put(op, kids int) {
	p.nodes = append(p.nodes, api.Node{Op: op, Kids: kids})
}

// putText puts a node with a text behind the others.
func (p *parser) putText(op, kids int, text string) {
	p.nodes = append(p.nodes, api.Node{Op: op, Kids: kids, Text: text})
}

// next is the token that comes next; at the end a token of no kind.
func (p *parser) next() api.Token {
	if len(p.rest) == 0 {
		return api.Token{}
	}
	return p.rest[0]
}

// skip takes off the token that comes next.
func (p *parser) skip() {
	p.rest = p.rest[1:]
}

// sign takes off a symbol, if it comes next.
func (p *parser) sign(text string) bool {
	t := p.next()
	if t.Kind != api.TSign || t.Text != text {
		return false
	}
	p.skip()
	return true
}

// word takes off a keyword, if it comes next.
func (p *parser) word(text string) bool {
	t := p.next()
	if t.Kind != api.TWord || t.Text != text {
		return false
	}
	p.skip()
	return true
}

// name takes off a name.
func (p *parser) name() string {
	t := p.next()
	must(t.Kind == api.TName)
	p.skip()
	return t.Text
}

// list takes off elements with commas between them, and tells how many; a closure takes off one.
func (p *parser) list(element func()) int {
	element()
	n := 1
	for p.sign(",") {
		element()
		n++
	}
	return n
}

// listTo takes off elements, or none, and the symbol that closes them.
func (p *parser) listTo(closing string, element func()) int {
	if p.sign(closing) {
		return 0
	}
	n := p.list(element)
	must(p.sign(closing))
	return n
}

func (p *parser) expr() {
	if !p.word("if") {
		p.or()
		return
	}
	p.expr()
	must(p.word("then"))
	p.expr()
	must(p.word("else"))
	p.expr()
	p.put(api.OIf, 3)
}

func (p *parser) or() {
	p.and()
	for p.word("or") {
		p.and()
		p.put(api.OOr, 2)
	}
}

func (p *parser) and() {
	p.compare()
	for p.word("and") {
		p.compare()
		p.put(api.OAnd, 2)
	}
}

func (p *parser) compare() {
	p.sum()
	if op := comparison(p.next()); op != 0 {
		p.skip()
		p.sum()
		p.put(op, 2)
		return
	}
	switch {
	case p.word("between"):
		p.sum()
		must(p.word("and"))
		p.sum()
		p.put(api.OBetween, 3)
	case p.word("in"):
		p.group()
		p.put(api.OIn, 2)
	}
}

func (p *parser) sum() {
	p.product()
	for {
		switch {
		case p.sign("+"):
			p.product()
			p.put(api.OAdd, 2)
		case p.sign("-"):
			p.product()
			p.put(api.OSub, 2)
		default:
			return
		}
	}
}

func (p *parser) product() {
	p.signed()
	for {
		switch {
		case p.sign("*"):
			p.signed()
			p.put(api.OMul, 2)
		case p.sign("/"):
			p.signed()
			p.put(api.ODiv, 2)
		default:
			return
		}
	}
}

func (p *parser) signed() {
	if !p.sign("-") {
		p.path()
		return
	}
	p.signed()
	p.put(api.ONeg, 1)
}

func (p *parser) path() {
	p.single()
	for p.sign(".") {
		p.putText(api.OPath, 1, p.name())
	}
}

func (p *parser) single() {
	t := p.next()
	switch t.Kind {
	case api.TNum:
		p.skip()
		p.nodes = append(p.nodes, api.Node{Op: api.ONum, Num: t.Num})
	case api.TStr:
		p.skip()
		p.putText(api.OText, 0, t.Text)
	case api.TDate:
		p.skip()
		p.nodes = append(p.nodes, api.Node{Op: api.ODate, Day: t.Day})
	case api.TName:
		p.named()
	case api.TWord:
		p.constant()
	default:
		p.bracketed()
	}
}

// named takes off a name alone, or a call.
func (p *parser) named() {
	name := p.name()
	if !p.sign("(") {
		p.putText(api.OName, 0, name)
		return
	}
	n := p.listTo(")", func() { p.expr() })
	must(n <= mostArgs)
	p.putText(api.OCall, n, name)
}

// constant takes off a keyword that is a value.
func (p *parser) constant() {
	switch {
	case p.word("null"):
		p.put(api.ONull, 0)
	case p.word("true"):
		p.put(api.OTrue, 0)
	default:
		must(p.word("false"))
		p.put(api.OFalse, 0)
	}
}

// bracketed takes off a single expression that begins with a bracket.
func (p *parser) bracketed() {
	switch {
	case p.sign("("):
		p.expr()
		must(p.sign(")"))
	case p.sign("["):
		p.put(api.OList, p.listTo("]", func() { p.expr() }))
	default:
		must(p.sign("{"))
		p.context()
	}
}

// context takes off what stands behind the { of a context.
func (p *parser) context() {
	var names []string
	n := p.listTo("}", func() {
		name := p.name()
		must(!slices.Contains(names, name) && p.sign(":"))
		names = append(names, name)
		p.expr()
		p.putText(api.OEntry, 1, name)
	})
	p.put(api.OCtx, n)
}

// comparison is the operation of a symbol that compares; 0 if it is none.
func comparison(t api.Token) int {
	if t.Kind != api.TSign {
		return 0
	}
	switch t.Text {
	case "=":
		return api.OEq
	case "!=":
		return api.ONe
	case "<":
		return api.OLt
	case "<=":
		return api.OLe
	case ">":
		return api.OGt
	case ">=":
		return api.OGe
	}
	return 0
}
