package desk

import (
	"strconv"
	"strings"

	"tariff/api"
	"tariff/census"
	"tariff/kind"
	"tariff/model"
	"tariff/outline"
	"tariff/run"
	"tariff/sweep"
	"tariff/value"
)

// joined is the texts of things, and a text between each two of them.
func joined[T any](list []T, between string, text func(T) string) string {
	var texts []string
	for _, x := range list {
		texts = append(texts, text(x))
	}
	return strings.Join(texts, between)
}

func plan(m api.Model) (string, api.Errno) {
	ids, e := model.Plan(m)
	return strings.Join(ids, " "), e
}

func scope(m api.Model, id string) (string, api.Errno) {
	names, e := model.Scope(m, id)
	return joined(names, " ", symText), e
}

func eval(m api.Model, id string, inputs api.Value) (string, api.Errno) {
	v, e := run.Eval(m, id, inputs)
	if e != api.OK {
		return "", e
	}
	return value.Print(v)
}

func all(m api.Model, inputs api.Value) (string, api.Errno) {
	outcomes, e := run.All(m, inputs)
	return joined(outcomes, "; ", outcomeText), e
}

func hits(m api.Model, id string, names api.Value) (string, api.Errno) {
	rules, e := run.Matches(m, id, names)
	return joined(rules, " ", strconv.Itoa), e
}

func gaps(m api.Model, id string) (string, api.Errno) {
	r, e := sweep.Analyze(m, id)
	if r.Complete || e != api.OK {
		return "complete", e
	}
	missing := strconv.Itoa(r.Missing) + " of " + strconv.Itoa(r.Cells) + " "
	return missing + joined(r.Gaps, " ", boxText), api.OK
}

func twice(m api.Model, id string) (string, api.Errno) {
	r, e := sweep.Analyze(m, id)
	if r.Apart || e != api.OK {
		return "apart", e
	}
	return joined(r.Overlaps, " ", overlapText), api.OK
}

func lines(m api.Model, id string) (string, api.Errno) {
	around, e := outline.Gaps(m, id)
	return joined(around, " ", lineText), e
}

func count(m api.Model, id string) (string, api.Errno) {
	counts, e := census.Count(m, id)
	return joined(counts, " ", strconv.Itoa), e
}

func symText(s api.Sym) string {
	name, _ := kind.Name(s.Type)
	return s.Name + ":" + name
}

func outcomeText(o run.Outcome) string {
	if o.Err != api.OK {
		return o.Id + "=" + failure(o.Err)
	}
	text, _ := value.Print(o.Value)
	return o.Id + "=" + text
}

func overlapText(o sweep.Overlap) string {
	return strconv.Itoa(o.A) + "+" + strconv.Itoa(o.B) + ":" + strconv.Itoa(o.Cells) + "@" + boxText(o.Box)
}

func boxText(box []complex128) string {
	if len(box) == 0 {
		return "all"
	}
	return joined(box, "x", spanText)
}

func spanText(s complex128) string {
	return strconv.Itoa(int(real(s))) + "-" + strconv.Itoa(int(imag(s))-1)
}

func lineText(line []complex128) string {
	return joined(line, ",", pointText)
}

func pointText(p complex128) string {
	return strconv.Itoa(int(real(p))) + "+" + strconv.Itoa(int(imag(p))) + "i"
}
