package expr

import (
	"regexp"
	"slices"
	"strings"
	"testing"

	"tariff/api"
	"tariff/lex"
)

// The chapter's grammar, taken as it stands: every way to read the tokens by it is tried.
const grammar = `
    expr    = "if" expr "then" expr "else" expr | or
    or      = and { "or" and }
    and     = compare { "and" compare }
    compare = sum [ ("=" | "!=" | "<" | "<=" | ">" | ">=") sum
                  | "between" sum "and" sum
                  | "in" "(" test { "," test } ")" ]
    sum     = product { ("+" | "-") product }
    product = signed { ("*" | "/") signed }
    signed  = "-" signed | path
    path    = single { "." name }
    single  = number | text | day | "null" | "true" | "false" | name
            | name "(" [ expr { "," expr } ] ")"
            | "(" expr ")"
            | "[" [ expr { "," expr } ] "]"
            | "{" [ name ":" expr { "," name ":" expr } ] "}"
    test    = ("<" | "<=" | ">" | ">=") sum
            | ("[" | "(") sum ".." sum ("]" | ")")
            | sum
    tests   = "-" | "not" "(" test { "," test } ")" | test { "," test }
`

// part is a part of a rule: 'a' alternatives, 's' a sequence, 'r' what may repeat, 'o' what may be
// left out, 'l' a literal, 'w' a word.
type part struct {
	form  byte
	text  string
	parts []part
}

// rules is the grammar's rules by their names.
var rules = readRules(regexp.MustCompile(`"[^"]*"|[a-z]+|[=|()\[\]{}]`).FindAllString(grammar, -1))

// readRules reads rules; their names are what stands ahead of a =.
func readRules(words []string) map[string]part {
	list := map[string]part{}
	for len(words) > 0 {
		name := words[0]
		end := 2
		for end < len(words) && (end+1 >= len(words) || words[end+1] != "=") {
			end++
		}
		rest := words[2:end]
		list[name] = readChoice(&rest)
		words = words[end:]
	}
	return list
}

// readChoice reads alternatives up to a bracket that closes.
func readChoice(words *[]string) part {
	choice := part{form: 'a', parts: []part{{form: 's'}}}
	for len(*words) > 0 {
		word := (*words)[0]
		*words = (*words)[1:]
		last := &choice.parts[len(choice.parts)-1]
		switch word {
		case "|":
			choice.parts = append(choice.parts, part{form: 's'})
		case ")", "]", "}":
			return choice
		case "(":
			last.parts = append(last.parts, readChoice(words))
		case "[":
			last.parts = append(last.parts, part{form: 'o', parts: []part{readChoice(words)}})
		case "{":
			last.parts = append(last.parts, part{form: 'r', parts: []part{readChoice(words)}})
		default:
			if text, ok := strings.CutPrefix(word, `"`); ok {
				last.parts = append(last.parts, part{form: 'l', text: strings.TrimSuffix(text, `"`)})
			} else {
				last.parts = append(last.parts, part{form: 'w', text: word})
			}
		}
	}
	return choice
}

// tree is what has been read: a rule with what it consists of, or a token.
type tree struct {
	rule  string
	token api.Token
	kids  []tree
}

// way is a way to read tokens up to an end.
type way struct {
	end  int
	kids []tree
}

// reading is tokens that are read by the rules.
type reading struct {
	tokens []api.Token
	known  map[string][]way
}

// ways is all ways to read a part from a token on.
func (r *reading) ways(p part, at int) []way {
	var list []way
	switch p.form {
	case 'a':
		for _, q := range p.parts {
			list = append(list, r.ways(q, at)...)
		}
	case 's':
		list = []way{{end: at}}
		for _, q := range p.parts {
			list = r.more(list, q)
		}
	case 'o':
		list = append([]way{{end: at}}, r.ways(p.parts[0], at)...)
	case 'r':
		for front := []way{{end: at}}; len(front) > 0; front = r.more(front, p.parts[0]) {
			list = append(list, front...)
		}
	case 'l':
		if at < len(r.tokens) && (r.tokens[at].Kind == api.TSign || r.tokens[at].Kind == api.TWord) && r.tokens[at].Text == p.text {
			list = []way{{at + 1, []tree{{token: r.tokens[at]}}}}
		}
	case 'w':
		list = r.word(p.text, at)
	}
	return list
}

// more is all ways to read a part after each of the ways before.
func (r *reading) more(before []way, p part) []way {
	var list []way
	for _, w := range before {
		for _, x := range r.ways(p, w.end) {
			list = append(list, way{x.end, slices.Concat(w.kids, x.kids)})
		}
	}
	return list
}

// word is all ways to read a word of the grammar: a kind of token, or a rule.
func (r *reading) word(text string, at int) []way {
	kind := map[string]int{"number": api.TNum, "text": api.TStr, "day": api.TDate, "name": api.TName}[text]
	if kind != 0 {
		if at < len(r.tokens) && r.tokens[at].Kind == kind {
			return []way{{at + 1, []tree{{token: r.tokens[at]}}}}
		}
		return nil
	}
	key := text + string(rune(1000+at))
	if list, ok := r.known[key]; ok {
		return list
	}
	var list []way
	for _, w := range r.ways(rules[text], at) {
		list = append(list, way{w.end, []tree{{rule: text, kids: w.kids}}})
	}
	r.known[key] = list
	return list
}

// readBy is the nodes of tokens by a rule, and in how many ways they can be read.
func readBy(rule string, tokens []api.Token) ([]api.Node, int) {
	r := reading{tokens, map[string][]way{}}
	var nodes []api.Node
	count := 0
	for _, w := range r.word(rule, 0) {
		if w.end == len(tokens) {
			nodes = build(w.kids[0])
			count++
		}
	}
	return nodes, count
}

var operations = map[string]int{"or": api.OOr, "and": api.OAnd, "=": api.OEq, "!=": api.ONe, "<": api.OLt, "<=": api.OLe, ">": api.OGt, ">=": api.OGe, "+": api.OAdd, "-": api.OSub, "*": api.OMul, "/": api.ODiv}

// build is the nodes of what has been read.
func build(t tree) []api.Node {
	var nodes []api.Node
	inner := 0 // how many of the kids are rules
	for _, k := range t.kids {
		if k.rule != "" {
			inner++
		}
	}
	put := func(n api.Node) []api.Node { return append(nodes, n) }
	switch t.rule {
	case "or", "and", "sum", "product": // grouped from the left
		nodes = build(t.kids[0])
		for i := 1; i < len(t.kids); i += 2 {
			nodes = append(nodes, build(t.kids[i+1])...)
			nodes = append(nodes, api.Node{Op: operations[t.kids[i].token.Text], Kids: 2})
		}
		return nodes
	case "single":
		return buildSingle(t, inner)
	case "path":
		nodes = build(t.kids[0])
		for i := 2; i < len(t.kids); i += 2 {
			nodes = append(nodes, api.Node{Op: api.OPath, Kids: 1, Text: t.kids[i].token.Text})
		}
		return nodes
	}
	for _, k := range t.kids {
		if k.rule != "" {
			nodes = append(nodes, build(k)...)
		}
	}
	first := t.kids[0].token.Text
	switch t.rule {
	case "expr":
		if inner == 3 {
			return put(api.Node{Op: api.OIf, Kids: 3})
		}
	case "compare":
		switch {
		case inner == 1 && len(t.kids) == 1:
		case t.kids[1].token.Text == "between":
			return put(api.Node{Op: api.OBetween, Kids: 3})
		case t.kids[1].token.Text == "in":
			nodes = put(api.Node{Op: api.OSome, Kids: inner - 1})
			return put(api.Node{Op: api.OIn, Kids: 2})
		default:
			return put(api.Node{Op: operations[t.kids[1].token.Text], Kids: 2})
		}
	case "signed":
		if first == "-" {
			return put(api.Node{Op: api.ONeg, Kids: 1})
		}
	case "test":
		switch {
		case inner == 2:
			return put(api.Node{Op: api.OSpan, Kids: 2, Text: first + t.kids[4].token.Text})
		case first == "":
			return put(api.Node{Op: api.OIs, Kids: 1})
		default:
			return put(api.Node{Op: map[string]int{"<": api.OBelow, "<=": api.OAtMost, ">": api.OAbove, ">=": api.OAtLeast}[first], Kids: 1})
		}
	case "tests":
		if inner == 0 {
			return []api.Node{{Op: api.OAny}}
		}
		nodes = put(api.Node{Op: api.OSome, Kids: inner})
		if first == "not" {
			return put(api.Node{Op: api.ONot, Kids: 1})
		}
	}
	return nodes
}

// buildSingle is build for the rule single.
func buildSingle(t tree, inner int) []api.Node {
	var nodes []api.Node
	first := t.kids[0].token
	for i, k := range t.kids {
		if k.rule != "" {
			nodes = append(nodes, build(k)...)
		}
		if k.rule != "" && first.Text == "{" {
			nodes = append(nodes, api.Node{Op: api.OEntry, Kids: 1, Text: t.kids[i-2].token.Text})
		}
	}
	switch {
	case first.Kind == api.TNum:
		return []api.Node{{Op: api.ONum, Num: first.Num}}
	case first.Kind == api.TStr:
		return []api.Node{{Op: api.OText, Text: first.Text}}
	case first.Kind == api.TDate:
		return []api.Node{{Op: api.ODate, Day: first.Day}}
	case first.Kind == api.TWord:
		return []api.Node{{Op: map[string]int{"null": api.ONull, "true": api.OTrue, "false": api.OFalse}[first.Text]}}
	case first.Kind == api.TName && len(t.kids) == 1:
		return []api.Node{{Op: api.OName, Text: first.Text}}
	case first.Kind == api.TName:
		return append(nodes, api.Node{Op: api.OCall, Kids: inner, Text: first.Text})
	case first.Text == "[":
		return append(nodes, api.Node{Op: api.OList, Kids: inner})
	case first.Text == "{":
		return append(nodes, api.Node{Op: api.OCtx, Kids: inner})
	}
	return nodes
}

// wantParse is Parse, or (tests) Tests.
func wantParse(t *testing.T, s string, tests bool) ([]api.Node, api.Errno) {
	tokens, e := lex.Read(s)
	if e != api.OK {
		return nil, e
	}
	rule := "expr"
	if tests {
		rule = "tests"
	}
	nodes, count := readBy(rule, tokens)
	if count > 1 {
		t.Errorf("%q can be read in %d ways", s, count)
	}
	if count == 0 || !soundCalls(nodes) {
		return nil, api.ErrText
	}
	if e := wantCheck(nodes, tests); e != api.OK {
		return nil, e
	}
	return nodes, api.OK
}

// soundCalls tells whether no call has more than 8 arguments, and no context a name twice.
func soundCalls(nodes []api.Node) bool {
	for at, n := range nodes {
		if n.Op == api.OCall && n.Kids > 8 {
			return false
		}
		if n.Op != api.OCtx {
			continue
		}
		kids, _, _ := wantParts(nodes, at)
		names := map[string]bool{}
		for _, k := range kids {
			names[nodes[k].Text] = true
		}
		if len(names) < len(kids) {
			return false
		}
	}
	return true
}
