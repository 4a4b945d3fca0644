package dsl

import (
	"strings"

	"tariff/api"
	"tariff/chars"
	"tariff/hit"
	"tariff/kind"
)

// widest is up to where what stands in a column is filled with blanks.
const widest = 24

// between is what stands between things of which a line has any number.
const between = " | "

// writer is the text of a valid model, as far as it is made.
type writer struct {
	text strings.Builder
}

// line writes a line: so many blanks, and words.
func (w *writer) line(indent int, words ...string) {
	w.text.WriteString(strings.Repeat(" ", indent) + strings.Join(words, " ") + "\n")
}

// with is words and, if there is something to follow them, a sign and that.
func with(words []string, sign, more string) []string {
	if more == "" {
		return words
	}
	return append(words, sign, more)
}

func (w *writer) model(m api.Model) {
	name, _ := chars.Quote(m.Name)
	w.line(0, "model", m.Id, name)
	for _, i := range m.Items {
		name, _ := kind.Name(i.Type)
		w.line(0, with([]string{"item", i.Name, name}, ":", i.Allowed)...)
	}
	for _, i := range m.Inputs {
		w.line(0, with([]string{"input", i.Id, i.Name}, ":", i.Item)...)
	}
	for _, d := range m.Decisions {
		w.decision(d)
	}
}

func (w *writer) decision(d api.Decision) {
	w.line(0)
	w.line(0, with([]string{"decision", d.Id, d.Name}, ":", d.Item)...)
	if len(d.Needs) > 0 {
		w.line(2, "needs", strings.Join(d.Needs, ", "))
	}
	if d.Text != "" {
		w.line(2, "=", d.Text)
		return
	}
	w.table(d.Table)
}

func (w *writer) table(t api.Table) {
	sign, _ := hit.Sign(t.Policy)
	w.line(2, "table", sign)
	for _, c := range t.Ins {
		if c.Item == "" {
			w.line(4, "in", ":", c.Text)
		} else {
			w.line(4, "in", c.Item, ":", c.Text)
		}
	}
	for _, c := range t.Outs {
		words := with([]string{"out", c.Text}, ":", c.Item)
		w.line(4, with(words, "=", strings.Join(c.Values, between))...)
	}
	w.rules(t)
	if len(t.Default) > 0 {
		w.line(4, "default", "=>", strings.Join(t.Default, between))
	}
}

// rules writes the rules of a table, their columns below one another.
func (w *writer) rules(t api.Table) {
	tests, says := make([]int, len(t.Ins)), make([]int, len(t.Outs))
	for _, r := range t.Rules {
		widen(tests, r.Tests)
		widen(says, r.Says)
	}
	says[len(says)-1] = 0 // nothing follows the last one
	for _, r := range t.Rules {
		words := []string{"|"}
		if len(r.Tests) > 0 {
			words = append(words, filled(r.Tests, tests))
		}
		w.line(4, append(words, "=>", filled(r.Says, says))...)
	}
}

// widen makes columns as wide as what stands in them, if they may be.
func widen(widths []int, row []string) {
	for i, s := range row {
		widths[i] = min(max(widths[i], len(s)), widest)
	}
}

// filled is a row, each thing in it as wide as its column at least.
func filled(row []string, widths []int) string {
	var list []string
	for i, s := range row {
		list = append(list, s+strings.Repeat(" ", max(widths[i]-len(s), 0)))
	}
	return strings.Join(list, between)
}
