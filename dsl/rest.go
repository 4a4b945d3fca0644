package dsl

import (
	"slices"
	"strings"

	"tariff/api"
	"tariff/chars"
	"tariff/hit"
	"tariff/kind"
)

// titleOf is the model without anything in it, by the rest of its line.
func titleOf(rest string) api.Model {
	end := strings.IndexAny(rest, blanks)
	must(end >= 0)
	name, e := chars.Unquote(trim(rest[end:]))
	must(e == api.OK)
	return api.Model{Id: named(rest[:end]), Name: name}
}

func itemOf(rest string) api.Item {
	before, allowed, ok := cut(rest, ":")
	name, word := pair(before)
	t, e := kind.Parse(word)
	must(e == api.OK && (!ok || allowed != ""))
	return api.Item{Name: named(name), Type: t, Allowed: allowed}
}

// inputOf is an input by the rest of its line, or what a decision has in common with it.
func inputOf(rest string) api.Input {
	before, item, ok := cut(rest, ":")
	id, name := pair(before)
	i := api.Input{Id: named(id), Name: named(name)}
	if ok {
		i.Item = typed(item)
	}
	return i
}

func needsOf(rest string) []string {
	ids := split(rest, ",")
	for _, id := range ids {
		named(id)
	}
	return ids
}

func textOf(rest string) string {
	must(rest != "")
	return rest
}

func policyOf(rest string) int {
	policy, e := hit.Policy(rest)
	must(e == api.OK)
	return policy
}

func inOf(rest string) api.Column {
	item, text, ok := cut(rest, ":")
	must(ok)
	c := api.Column{Text: textOf(text)}
	if item != "" {
		c.Item = typed(item)
	}
	return c
}

func outOf(rest string) api.Column {
	before, values, listed := cut(rest, "=")
	name, item, ok := cut(before, ":")
	c := api.Column{Text: named(name)}
	if ok {
		c.Item = typed(item)
	}
	if listed {
		c.Values = pieces(values)
	}
	return c
}

func ruleOf(rest string) api.Rule {
	tests, says, ok := cut(rest, "=>")
	must(ok)
	r := api.Rule{Says: pieces(says)}
	if tests != "" {
		r.Tests = pieces(tests)
	}
	return r
}

func defaultOf(rest string) []string {
	r := ruleOf(rest)
	must(len(r.Tests) == 0)
	return r.Says
}

// pieces is what stands between the signs | of a text, of which nothing may be empty.
func pieces(s string) []string {
	list := split(s, "|")
	must(!slices.Contains(list, ""))
	return list
}

// pair is the two words, with blanks between them, that a text consists of.
func pair(s string) (string, string) {
	list := strings.FieldsFunc(s, isBlank)
	must(len(list) == 2)
	return list[0], list[1]
}

// named is a text that is a name.
func named(s string) string {
	must(chars.Name(s))
	return s
}

// typed is a text that an item may be: a name, or the name of a type.
func typed(s string) string {
	_, e := kind.Parse(s)
	must(e == api.OK || chars.Name(s))
	return s
}
