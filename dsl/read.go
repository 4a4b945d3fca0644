package dsl

import (
	"strings"

	"tariff/api"
)

// letters are those that a head may consist of.
const letters = "abcdefghijklmnopqrstuvwxyzABCDEFGHIJKLMNOPQRSTUVWXYZ"

// line is a line that is not skipped: its head, its rest, and where it begins in the text.
type line struct {
	head, rest string
	at         int
}

// linesOf is the lines of a text that are not skipped.
func linesOf(b string) []line {
	var list []line
	at := 0
	for s := range strings.SplitSeq(b, "\n") {
		if text := trim(s); text != "" && text[0] != '#' {
			n := headSize(text)
			list = append(list, line{text[:n], trim(text[n:]), at})
		}
		at += len(s) + len("\n")
	}
	return list
}

// headSize is how many bytes the head of a line has that is not empty.
func headSize(text string) int {
	if text[0] == '=' || text[0] == '|' {
		return 1
	}
	return len(text) - len(strings.TrimLeft(text, letters))
}

// reader takes the lines of a text off from the first one on. Each of its steps panics if they go
// on in no way that the form allows.
type reader struct {
	lines []line // what is left
	end   int    // where the text ends
}

// must panics unless what is required holds.
func must(holds bool) {
	if !holds {
		panic(api.ErrText)
	}
}

// place is where the line begins that comes next; the text's end if there is none.
func (r *reader) place() int {
	if len(r.lines) == 0 {
		return r.end
	}
	return r.lines[0].at
}

// has tells whether the line that comes next has that head.
func (r *reader) has(head string) bool {
	return len(r.lines) > 0 && r.lines[0].head == head
}

// one takes off a line with that head, and is what is made of its rest.
func one[T any](r *reader, head string, made func(rest string) T) T {
	must(r.has(head))
	// The model must not hold on to the text that it is made of.
	result := made(strings.Clone(r.lines[0].rest))
	r.lines = r.lines[1:]
	return result
}

// optional is one, or nothing if the line that comes next has another head.
func optional[T any](r *reader, head string, made func(rest string) T) T {
	if !r.has(head) {
		var none T
		return none
	}
	return one(r, head, made)
}

// each takes off the lines with that head that come next, and is what is made of them.
func each[T any](r *reader, head string, made func(rest string) T) []T {
	var list []T
	for r.has(head) {
		list = append(list, one(r, head, made))
	}
	return list
}

// model takes off all lines.
func (r *reader) model() api.Model {
	m := one(r, "model", titleOf)
	m.Items = each(r, "item", itemOf)
	m.Inputs = each(r, "input", inputOf)
	for len(r.lines) > 0 {
		m.Decisions = append(m.Decisions, r.decision())
	}
	return m
}

func (r *reader) decision() api.Decision {
	i := one(r, "decision", inputOf)
	d := api.Decision{Id: i.Id, Name: i.Name, Item: i.Item}
	d.Needs = optional(r, "needs", needsOf)
	if r.has("=") {
		d.Text = one(r, "=", textOf)
	} else {
		d.Table = r.table()
	}
	return d
}

func (r *reader) table() api.Table {
	t := api.Table{Policy: one(r, "table", policyOf)}
	t.Ins = each(r, "in", inOf)
	t.Outs = each(r, "out", outOf)
	must(len(t.Outs) > 0)
	t.Rules = each(r, "|", ruleOf)
	t.Default = optional(r, "default", defaultOf)
	return t
}
