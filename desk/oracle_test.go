package desk

import (
	"fmt"
	"regexp"
	"slices"
	"strings"
	"testing"

	"tariff/api"
	"tariff/bind"
	"tariff/dsl"
	"tariff/kind"
	"tariff/model"
	"tariff/outline"
	"tariff/run"
	"tariff/sweep"
	"tariff/value"
)

// The lines that are commands, once the blanks around them are off.
var (
	around  = regexp.MustCompile(`(?s)^[ \t]*(.*?)[ \t]*$`)
	plain   = regexp.MustCompile(`^(xml|dsl|plan)$|^again[ \t]+(?:xml|dsl)$`)
	byId    = regexp.MustCompile(`^(scope|gaps|twice|lines|count)[ \t]+([^ \t]+)$`)
	byValue = regexp.MustCompile(`(?s)^(all)[ \t]+()(.+)$`)
	byBoth  = regexp.MustCompile(`(?s)^(eval|hits)[ \t]+([^ \t]+)[ \t]+(.+)$`)
)

// wantAnswer is what a command answers, by the layers below.
func wantAnswer(m api.Model, line string) string {
	line = around.FindStringSubmatch(line)[1]
	answer, e := "", api.ErrText
	if found := plain.FindStringSubmatch(line); found != nil {
		answer, e = wantWhole(m, found[1])
	} else if found := byId.FindStringSubmatch(line); found != nil {
		answer, e = wantOf(m, found[1], found[2])
	} else if found := slices.Concat(byValue.FindStringSubmatch(line), byBoth.FindStringSubmatch(line)); found != nil {
		var v api.Value
		if v, e = value.Read(found[3]); e == api.OK {
			answer, e = wantWith(m, found[1], found[2], v)
		}
	}
	if len(answer) > 300000 {
		e = api.ErrLong
	}
	if e != api.OK {
		return fmt.Sprintf("error %d", e)
	}
	return answer
}

// wantWhole is what a word alone answers; without a word it is the command again.
func wantWhole(m api.Model, word string) (string, api.Errno) {
	switch word {
	case "xml":
		return bind.WriteXML(m)
	case "dsl":
		return dsl.Write(m)
	case "plan":
		ids, e := model.Plan(m)
		return words(ids), e
	}
	return "same", api.OK
}

// wantWith is what a word, an id and a value answer.
func wantWith(m api.Model, word, id string, v api.Value) (string, api.Errno) {
	switch word {
	case "eval":
		return printed(run.Eval(m, id, v))
	case "hits":
		rules, e := run.Matches(m, id, v)
		return words(rules), e
	}
	if v.Kind != api.Ctx {
		return "", api.ErrType
	}
	ids, e := model.Plan(m)
	var list []string
	for _, id := range ids {
		text, e := printed(run.Eval(m, id, v))
		if e != api.OK {
			text = fmt.Sprintf("error %d", e)
		}
		list = append(list, id+"="+text)
	}
	return strings.Join(list, "; "), e
}

// wantOf is what a word and an id answer.
func wantOf(m api.Model, word, id string) (string, api.Errno) {
	if word == "scope" {
		names, e := model.Scope(m, id)
		var list []string
		for _, s := range names {
			name, _ := kind.Name(s.Type)
			list = append(list, fmt.Sprintf("%s:%s", s.Name, name))
		}
		return words(list), e
	}
	axes, matches, e := sweep.Matches(m, id)
	if e != api.OK {
		return "", e
	}
	switch word {
	case "gaps":
		return wantGaps(axes, matches), api.OK
	case "twice":
		return wantTwice(axes, matches), api.OK
	case "lines":
		return wantLines(axes, matches)
	}
	var counts []int
	for k := 0; slices.ContainsFunc(matches, func(l []int) bool { return len(l) >= k }); k++ {
		counts = append(counts, len(cellsOf(axes, matches, func(l []int) bool { return len(l) == k })))
	}
	return words(counts), api.OK
}

func wantGaps(axes []int, matches [][]int) string {
	missed := cellsOf(axes, matches, func(l []int) bool { return len(l) == 0 })
	if len(missed) == 0 {
		return "complete"
	}
	list := []string{fmt.Sprintf("%d of %d", len(missed), len(matches))}
	boxes, _ := sweep.Cover(axes, missed)
	for _, box := range boxes {
		list = append(list, boxed(box))
	}
	return words(list)
}

func wantTwice(axes []int, matches [][]int) string {
	var list []string
	rules := 0
	for _, l := range matches {
		rules = max(rules, 1+slices.Max(append(l, -1)))
	}
	for a := range rules {
		for b := a + 1; b < rules; b++ {
			both := cellsOf(axes, matches, func(l []int) bool { return slices.Contains(l, a) && slices.Contains(l, b) })
			if len(both) > 0 {
				boxes, _ := sweep.Cover(axes, both)
				list = append(list, fmt.Sprintf("%d+%d:%d@%s", a, b, len(both), boxed(boxes[0])))
			}
		}
	}
	if len(list) == 0 {
		return "apart"
	}
	return words(list)
}

func wantLines(axes []int, matches [][]int) (string, api.Errno) {
	if len(axes) != 2 {
		return "", api.ErrArg
	}
	var missed []complex128
	for _, cell := range cellsOf(axes, matches, func(l []int) bool { return len(l) == 0 }) {
		missed = append(missed, complex(float64(cell[0]), float64(cell[1])))
	}
	lines, e := outline.Trace(axes[0], axes[1], missed)
	var list []string
	for _, line := range lines {
		var points []string
		for _, p := range line {
			points = append(points, fmt.Sprintf("%d+%di", int(real(p)), int(imag(p))))
		}
		list = append(list, strings.Join(points, ","))
	}
	return words(list), e
}

// cellsOf is the cells whose rules are of some sort.
func cellsOf(axes []int, matches [][]int, is func([]int) bool) [][]int {
	var list [][]int
	for n, rules := range matches {
		if !is(rules) {
			continue
		}
		cell := make([]int, len(axes))
		for col := len(axes) - 1; col >= 0; col-- {
			cell[col], n = n%axes[col], n/axes[col]
		}
		list = append(list, cell)
	}
	return list
}

// boxed is a box as a text.
func boxed(box []complex128) string {
	var list []string
	for _, s := range box {
		list = append(list, fmt.Sprintf("%d-%d", int(real(s)), int(imag(s))-1))
	}
	return strings.Join(append(list, "all")[:max(1, len(list))], "x")
}

// words is things with a blank between each two of them.
func words[T any](list []T) string {
	text := fmt.Sprintln(list)
	return text[1 : len(text)-2]
}

func printed(v api.Value, e api.Errno) (string, api.Errno) {
	if e != api.OK {
		return "", e
	}
	return value.Print(v)
}

// holdCommand holds a command against the layers below, and tells its answer.
func holdCommand(t *testing.T, m api.Model, line string) string {
	t.Helper()
	want := wantAnswer(m, line)
	answer, now, e := Command(m, line)
	if answer != want || !model.Same(now, m) || e != api.OK {
		text, _ := dsl.Write(m)
		t.Errorf("%q: %.300q %v, want %.300q, for\n%s", line, answer, e, want, text)
	}
	return answer
}
