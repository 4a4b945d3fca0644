package dsl

import (
	"fmt"
	"regexp"
	"slices"
	"strings"
	"testing"
	"unicode/utf8"

	"tariff/api"
	"tariff/chars"
	"tariff/kind"
	"tariff/model"
)

// What the chapter says, by patterns over lines whose quoted parts are blotted out.

const (
	blank  = `[ \t\r]*`
	name   = `([A-Za-z_][A-Za-z0-9_]{0,63})`
	typed1 = `(any|boolean|number|string|date|list<(?:any|boolean|number|string|date)>)`
	item   = `([A-Za-z_][A-Za-z0-9_]{0,63}|list<(?:any|boolean|number|string|date)>)`
	piece  = `[^|]*[^| \t\r][^|]*`
	list   = `(` + piece + `(?:\|` + piece + `)*)`
)

// quoted is a part that a quote opens, with its quotes.
var quoted = regexp.MustCompile(`(?s)"(?:[^"\\]|\\.)*(?:"|\\?\z)`)

// blot is a text with a byte that stands nowhere else in place of each byte that is quoted.
func blot(s string) string {
	return quoted.ReplaceAllStringFunc(s, func(q string) string { return strings.Repeat("\x01", len(q)) })
}

// wantSplit is Split by the text that is blotted out.
func wantSplit(s, sign string) []string {
	if sign == "" {
		return []string{strings.Trim(s, " \t\r")}
	}
	var list []string
	at := 0
	for _, p := range strings.Split(blot(s), sign) {
		list = append(list, strings.Trim(s[at:at+len(p)], " \t\r"))
		at += len(p) + len(sign)
	}
	return list
}

// pattern is what the rest of a line with a head is; a letter for that head, and a pattern.
type pattern struct {
	letter string
	rest   *regexp.Regexp
}

func rest(s string) *regexp.Regexp {
	return regexp.MustCompile(`(?s)^` + strings.ReplaceAll(s, "~", blank) + `$`)
}

var patterns = map[string]pattern{
	"model":    {"M", rest(name + `[ \t\r]+(\x01+)`)},
	"item":     {"I", rest(name + `[ \t\r]+` + typed1 + `(?:~:~(.+))?`)},
	"input":    {"N", rest(name + `[ \t\r]+` + name + `(?:~:~` + item + `)?`)},
	"decision": {"D", rest(name + `[ \t\r]+` + name + `(?:~:~` + item + `)?`)},
	"needs":    {"E", rest(`(` + name + `(?:~,~` + name + `)*)`)},
	"=":        {"=", rest(`(.+)`)},
	"table":    {"T", rest(`([UAPFROC]|C[+<>#])`)},
	"in":       {"C", rest(`(?:` + item + `~)?:~(.+)`)},
	"out":      {"O", rest(name + `(?:~:~` + item + `)?(?:~=` + list + `)?`)},
	"|":        {"R", rest(`(.*?)=>(.*)`)},
	"default":  {"F", rest(`=>` + list)},
}

var (
	headed = regexp.MustCompile(`(?s)^([=|]|[A-Za-z]*)[ \t\r]*(.*)$`)
	whole  = regexp.MustCompile(`^MI*N*(DE?(=|TC*O+R*F?))*$`)
	lists  = rest(list)
)

// part is a line that isn't skipped: its head, and what its pattern has found, cut out of it.
type part struct {
	head  string
	found []string
}

// partOf is a line as its pattern has it; false if it hasn't.
func partOf(line string) (part, bool) {
	h := headed.FindStringSubmatch(line)
	p, ok := patterns[h[1]]
	if !ok {
		return part{}, false
	}
	places := p.rest.FindStringSubmatchIndex(blot(h[2]))
	if places == nil {
		return part{}, false
	}
	var found []string
	for i := 2; i < len(places); i += 2 {
		if places[i] < 0 {
			found = append(found, "")
		} else {
			found = append(found, strings.Trim(h[2][places[i]:places[i+1]], " \t\r"))
		}
	}
	return part{h[1], found}, fits(h[1], found)
}

// fits tells whether what a pattern has found is right in what patterns can't tell.
func fits(head string, found []string) bool {
	words := found
	switch head {
	case "model":
		_, e := chars.Unquote(found[1])
		return e == api.OK && !chars.Word(found[0])
	case "item":
		words = found[:1]
	case "needs":
		words = wantSplit(found[0], ",")
	case "in", "out":
		words = found[:1]
		if head == "out" {
			words = found[:2]
		}
	case "|":
		return (found[0] == "" || lists.MatchString(blot(found[0]))) && lists.MatchString(blot(found[1]))
	case "=", "table", "default":
		return true
	}
	return !slices.ContainsFunc(words, chars.Word)
}

// some is the pieces of a list, or none if there is no list.
func some(list string) []string {
	if list == "" {
		return nil
	}
	return wantSplit(list, "|")
}

// wantModel is the model of lines that stand in the order in which they must.
func wantModel(parts []part) api.Model {
	var m api.Model
	var d *api.Decision
	for _, p := range parts {
		f := p.found
		switch p.head {
		case "model":
			m.Id = f[0]
			m.Name, _ = chars.Unquote(f[1])
		case "item":
			t, _ := kind.Parse(f[1])
			m.Items = append(m.Items, api.Item{Name: f[0], Type: t, Allowed: f[2]})
		case "input":
			m.Inputs = append(m.Inputs, api.Input{Id: f[0], Name: f[1], Item: f[2]})
		case "decision":
			m.Decisions = append(m.Decisions, api.Decision{Id: f[0], Name: f[1], Item: f[2]})
			d = &m.Decisions[len(m.Decisions)-1]
		case "needs":
			d.Needs = wantSplit(f[0], ",")
		case "=":
			d.Text = f[0]
		case "table":
			d.Table.Policy = 1 + slices.Index(signs, f[0])
		case "in":
			d.Table.Ins = append(d.Table.Ins, api.Column{Item: f[0], Text: f[1]})
		case "out":
			d.Table.Outs = append(d.Table.Outs, api.Column{Text: f[0], Item: f[1], Values: some(f[2])})
		case "|":
			d.Table.Rules = append(d.Table.Rules, api.Rule{Tests: some(f[0]), Says: some(f[1])})
		case "default":
			d.Table.Default = some(f[0])
		}
	}
	return m
}

var signs = []string{"U", "A", "P", "F", "R", "O", "C", "C+", "C<", "C>", "C#"}

// wantRead is Read by the patterns.
func wantRead(b string) (api.Model, api.Errno) {
	if len(b) > 300000 {
		return api.Model{}, api.ErrLong
	}
	if !utf8.ValidString(b) || regexp.MustCompile(`[\x00-\x08\x0b\x0c\x0e-\x1f\x{fffe}\x{ffff}]`).MatchString(b) {
		return api.Model{}, api.ErrForm
	}
	var parts []part
	letters := ""
	for _, line := range strings.Split(b, "\n") {
		line = strings.Trim(line, " \t\r")
		if line == "" || strings.HasPrefix(line, "#") {
			continue
		}
		p, ok := partOf(line)
		if !ok {
			return api.Model{}, api.ErrText
		}
		parts = append(parts, p)
		letters += patterns[p.head].letter
	}
	if !whole.MatchString(letters) {
		return api.Model{}, api.ErrText
	}
	m := wantModel(parts)
	if e := model.Validate(m); e != api.OK {
		return api.Model{}, e
	}
	return m, api.OK
}

// wantWrite is the text of a valid model.
func wantWrite(m api.Model) string {
	name, _ := chars.Quote(m.Name)
	s := fmt.Sprintf("model %s %s\n", m.Id, name)
	after := func(sign, text string) string {
		if text == "" {
			return ""
		}
		return " " + sign + " " + text
	}
	for _, i := range m.Items {
		name, _ := kind.Name(i.Type)
		s += fmt.Sprintf("item %s %s%s\n", i.Name, name, after(":", i.Allowed))
	}
	for _, i := range m.Inputs {
		s += fmt.Sprintf("input %s %s%s\n", i.Id, i.Name, after(":", i.Item))
	}
	for _, d := range m.Decisions {
		s += fmt.Sprintf("\ndecision %s %s%s\n", d.Id, d.Name, after(":", d.Item))
		if len(d.Needs) > 0 {
			s += "  needs " + strings.Join(d.Needs, ", ") + "\n"
		}
		if d.Text != "" {
			s += "  = " + d.Text + "\n"
			continue
		}
		s += "  table " + signs[d.Table.Policy-1] + "\n"
		for _, c := range d.Table.Ins {
			s += "    in" + strings.TrimRight(" "+c.Item, " ") + " : " + c.Text + "\n"
		}
		for _, c := range d.Table.Outs {
			s += "    out " + c.Text + after(":", c.Item) + after("=", strings.Join(c.Values, " | ")) + "\n"
		}
		s += wantRules(d.Table)
		if len(d.Table.Default) > 0 {
			s += "    default => " + strings.Join(d.Table.Default, " | ") + "\n"
		}
	}
	return s
}

// wantRules is the lines of a table's rules, column by column.
func wantRules(t api.Table) string {
	lines := make([]string, len(t.Rules))
	column := func(last bool, cell func(r api.Rule) string) {
		width := 0
		for _, r := range t.Rules {
			width = max(width, len(cell(r)))
		}
		for i, r := range t.Rules {
			lines[i] += cell(r)
			for n := len(cell(r)); n < width && n < 24 && !last; n++ {
				lines[i] += " "
			}
		}
	}
	sign := func(s string) {
		for i := range lines {
			lines[i] += s
		}
	}
	sign("    |")
	for k := range t.Ins {
		sign([]string{" ", " | "}[min(k, 1)])
		column(false, func(r api.Rule) string { return r.Tests[k] })
	}
	sign(" =>")
	for k := range t.Outs {
		sign([]string{" ", " | "}[min(k, 1)])
		column(k == len(t.Outs)-1, func(r api.Rule) string { return r.Says[k] })
	}
	sign("\n")
	return strings.Join(lines, "")
}

// brief is the beginning of what stands in a message.
func brief(v any) string {
	s := fmt.Sprintf("%q", v)
	return s[:min(len(s), 2000)]
}

// holdModel holds Write of a model, and Read of that, against what the chapter says.
func holdModel(t *testing.T, m api.Model) api.Errno {
	t.Helper()
	want, wantE := "", model.Validate(m)
	if wantE == api.OK {
		want = wantWrite(m)
	}
	s, e := Write(m)
	if s != want || e != wantE {
		t.Errorf("%s: %v, want %v:\n%s\nwant\n%s", brief(m), e, wantE, s, want)
	}
	if e != api.OK {
		return e
	}
	if back, at, e := Read(s); !model.Same(back, m) || at != 0 || e != api.OK {
		t.Errorf("%s: read %s, %d, %v", s, brief(back), at, e)
	}
	return e
}

// holdRead holds Read of a text, and Write of that, against what the chapter says.
func holdRead(t *testing.T, b string) api.Errno {
	t.Helper()
	want, wantE := wantRead(b)
	m, at, e := Read(b)
	if !model.Same(m, want) || e != wantE || at < 0 || at > len(b) || e == api.OK && at != 0 {
		t.Errorf("%s: %s, %d, %v, want %s, %v", brief(b), brief(m), at, e, brief(want), wantE)
	}
	if e == api.OK {
		holdModel(t, m)
	}
	return e
}
