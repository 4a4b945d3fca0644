package desk

import (
	"strings"

	"tariff/api"
	"tariff/bind"
	"tariff/dsl"
	"tariff/model"
	"tariff/value"
)

// blanks are the bytes that divide what a command consists of.
const blanks = " \t"

// command is a line: its word and its rest, and what the rest is as an id and a value.
type command struct {
	word, rest, id, value string
}

func commandOf(line string) command {
	word, rest := cut(strings.Trim(line, blanks))
	c := command{word: word, rest: rest, value: rest}
	if word != "all" {
		c.id, c.value = cut(rest)
	}
	return c
}

// cut is what stands before the first blank, and what follows it without blanks at its ends.
func cut(s string) (before, after string) {
	at := strings.IndexAny(s, blanks)
	if at < 0 {
		return s, ""
	}
	return s[:at], strings.Trim(s[at:], blanks)
}

// known tells whether there is such a command: nothing that its word asks for is missing, and there
// is nothing more.
func (c command) known() bool {
	switch c.word {
	case "xml", "dsl", "plan":
		return c.rest == ""
	case "again":
		return c.rest == "xml" || c.rest == "dsl"
	case "scope", "gaps", "twice", "lines", "count":
		return c.id != "" && c.value == ""
	case "eval", "hits", "all":
		return c.value != ""
	}
	return false
}

// carryOut is what a command answers, and the model behind it.
func (c command) carryOut(m api.Model) (string, api.Model, api.Errno) {
	if !c.known() {
		return "", api.Model{}, api.ErrText
	}
	if c.word == "again" {
		return again(m, c.rest)
	}
	answer, e := c.answer(m)
	return answer, modelOf(m), e
}

// again tells whether a model is the same once it is written in a form and read, and is what was read.
func again(m api.Model, form string) (string, api.Model, api.Errno) {
	write := dsl.Write
	if form == "xml" {
		write = bind.WriteXML
	}
	b, e := write(m)
	if e != api.OK {
		return "", api.Model{}, e
	}
	now, e := Load(b)
	if model.Same(now, m) {
		return "same", now, e
	}
	return "other", now, e
}

// answer is what a command answers that leaves the model as it is.
func (c command) answer(m api.Model) (string, api.Errno) {
	switch c.word {
	case "xml":
		return bind.WriteXML(m)
	case "dsl":
		return dsl.Write(m)
	case "plan":
		return plan(m)
	case "scope":
		return scope(m, c.id)
	case "gaps":
		return gaps(m, c.id)
	case "twice":
		return twice(m, c.id)
	case "lines":
		return lines(m, c.id)
	case "count":
		return count(m, c.id)
	}
	return c.evaluation(m)
}

// evaluation is what a command answers that asks what the model makes of a value.
func (c command) evaluation(m api.Model) (string, api.Errno) {
	v, e := value.Read(c.value)
	if e != api.OK {
		return "", e
	}
	switch c.word {
	case "eval":
		return eval(m, c.id, v)
	case "hits":
		return hits(m, c.id, v)
	}
	return all(m, v)
}
