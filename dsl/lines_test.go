package dsl

import (
	"strings"
	"testing"

	"tariff/api"
	"tariff/model"
)

// P21.2: every order of at most five lines, and those of a table.
func TestEveryOrder(t *testing.T) {
	count := map[api.Errno]int{}
	line := func(head string, n int) string {
		switch head {
		case "model":
			return "model m \"\"\n"
		case "item":
			return numbered("item t", n) + " any\n"
		case "input", "decision":
			return numbered(head+" i", n) + numbered(" x", n) + "\n"
		case "needs":
			return "needs i1\n"
		case "table":
			return "table F\n"
		case "in":
			return "in : 1\n"
		case "out":
			return numbered("out o", n) + "\n"
		case "|":
			return "| => 1\n"
		case "default":
			return "default => 1\n"
		}
		return "= 1\n"
	}
	heads := []string{"item", "input", "decision", "needs", "=", "table", "in", "out", "|", "default", "model"}
	var grow func(b string, n, last int)
	grow = func(b string, n, last int) {
		count[holdRead(t, b)]++
		for _, head := range heads {
			if n < last {
				grow(b+line(head, n), n+1, last)
			}
		}
	}
	grow("", 0, 2)
	grow(line("model", 0), 1, 5)
	grow(line("model", 0)+line("input", 1)+line("decision", 2), 3, 7)
	grow(line("model", 0)+line("decision", 1)+line("table", 2)+line("out", 3), 4, 8)
	if count[api.OK] < 50 || count[api.ErrForm] < 10 || count[api.ErrText] < 1000 {
		t.Error(count)
	}
}

// P21.2: each line with every rest of at most four words.
func TestEveryRest(t *testing.T) {
	const out, rule = "\nout o", "\n| => 1"
	count := map[api.Errno]int{}
	for _, c := range []struct{ before, after string }{
		{"model ", ""}, {top + "item ", ""}, {top + "input ", ""}, {top + "decision ", "\n= 1"}, {deciding("needs "), "\n= 1"}, {deciding("= "), ""}, {deciding("table "), out + " = 1" + rule}, {tabled("in "), out}, {tabled("out "), rule}, {tabled("in : 1\nout o\n| "), ""}, {tabled("out o\nout p\n| => 1 | 2\ndefault "), ""},
	} {
		words := []string{"a", "any", "1", "if", "list<any>", ":", "=", "=>", "|", ",", " ", `""`, `"`, "\\"}
		var grow func(rest string, n int)
		grow = func(rest string, n int) {
			count[holdRead(t, c.before+rest+c.after)]++
			for _, w := range words {
				if n < 4 {
					grow(rest+w, n+1)
				}
			}
		}
		grow("", 0)
	}
	if count[api.OK] < 500 || count[api.ErrForm] < 1000 || count[api.ErrName] < 100 {
		t.Error(count)
	}
}

// P21.2: heads, with everything that may be taken for one.
func TestHeads(t *testing.T) {
	rests := []string{"", "i x", " i x", "_i x", "1", ": 1", "=> 1", " => 1", "|=> 1", "=", ":", "\"a\"", "#", " #", "\ti1\tx1\r", "s i x", "é", "-"}
	for _, before := range []string{"", top, deciding(""), tabled("out o\n")} {
		for head := range patterns {
			for _, h := range []string{head, strings.ToUpper(head), head + head, " " + head, "#" + head, head[:len(head)-1], "_" + head, "x" + head, "\"" + head} {
				for _, rest := range rests {
					holdRead(t, before+h+rest)
					holdRead(t, before+h+rest+"\n= 1")
				}
			}
		}
	}
}

// P1, P21.2: texts with as many lines, and lines as long, as there may be.
func TestLongTexts(t *testing.T) {
	fillUp := func(b, more string) string {
		return b + strings.Repeat(more, (api.MaxBytes-len(b))/len(more))
	}
	for _, c := range []struct {
		b    string
		want api.Errno
	}{
		{fillUp(top, "input i x\n"), api.ErrLong}, {fillUp(top, "item t any\n"), api.ErrLong}, {fillUp(tabled("out o\n"), "|=>1\n"), api.ErrLong}, {fillUp(tabled("out o\n"), "| => 1 | 1\n"), api.ErrLong}, {fillUp(top, "#\n"), api.OK}, {fillUp(top, "\n"), api.OK}, {fillUp(deciding("needs i"), ",i") + "\n", api.ErrText}, {fillUp(deciding("= "), "1"), api.ErrLong}, {fillUp(deciding("= "), "\""), api.ErrLong}, {fillUp(tabled("out o ="), "1|"), api.ErrText}, {fillUp(tabled("out o =1"), "|1"), api.ErrLong}, {fillUp(tabled("out o\n| => 1"), "|1"), api.ErrLong}, {fillUp(tabled("out o\n| => "), "\\"), api.ErrLong}, {fillUp(tabled("out o\n| => \""), "\\"), api.ErrLong}, {fillUp("", "|"), api.ErrText}, {fillUp("", "\""), api.ErrText}, {fillUp("", " "), api.ErrText}, {fillUp("", "x"), api.ErrText}, {fillUp("model m \"", "x"), api.ErrText}, {fillUp("model m \"", "x")[1:] + "\"", api.ErrText},
	} {
		m, at, e := Read(c.b)
		if e != c.want || at < 0 || at > len(c.b) || e != api.OK && !model.Same(m, api.Model{}) {
			t.Errorf("%s: %d, %v, want %v", c.b[:40], at, e, c.want)
		}
	}
}

// P21.2, P21.3: the texts of the heaviest models are not too long.
func TestHeaviest(t *testing.T) {
	says := func(n int, list ...string) []string { return list[:n] }
	filled := func(of func(n int) api.Model) api.Model {
		n := 0
		for model.Validate(of(n+1)) == api.OK {
			n++
		}
		return of(n)
	}
	decisions := func(n int, x api.Table) []api.Decision {
		x.Policy = api.First
		return fill(n, func(i int) api.Decision { return api.Decision{Id: numbered("d", i), Name: numbered("y", i), Table: x} })
	}
	outs := fill(8, func(i int) api.Column { return api.Column{Text: numbered("o", i)} })
	wide := `"` + strings.Repeat("x", 22) + `"`
	rows := func(n int) []api.Rule {
		return fill(n, func(i int) api.Rule {
			s := "1"
			if i == 0 {
				s = wide
			}
			return api.Rule{Says: says(8, s, s, s, s, s, s, s, s)}
		})
	}
	for i, m := range []api.Model{
		filled(func(n int) api.Model {
			return api.Model{Id: "m", Name: strings.Repeat("\"", 1000), Decisions: decisions(1+n/60, api.Table{Outs: outs, Rules: rows(min(n, 60))})}
		}),
		filled(func(n int) api.Model {
			return api.Model{Id: "m", Decisions: decisions(1, api.Table{Outs: outs[:1], Rules: slicesOf(n, `"`+strings.Repeat(`\"`, 400)+`"`)})}
		}),
		filled(func(n int) api.Model {
			return api.Model{Id: "m", Decisions: decisions(n, api.Table{Outs: outs[:2]})}
		}),
		filled(func(n int) api.Model {
			inputs := fill(n, func(i int) api.Input {
				return api.Input{Id: numbered("i", i), Name: numbered("x", i), Item: "list<boolean>"}
			})
			return api.Model{Id: "m", Inputs: inputs, Decisions: fill(n, func(i int) api.Decision {
				return api.Decision{Id: numbered("d", i), Name: numbered("y", i), Text: "1", Needs: fill(min(n, 20), func(i int) string { return inputs[i].Id })}
			})}
		}),
	} {
		s, e := Write(m)
		if e != api.OK || model.Weight(m) < 5000 || len(s) > api.MaxBytes {
			t.Errorf("case %d: weight %d, %d bytes, %v", i, model.Weight(m), len(s), e)
		}
		holdModel(t, m)
	}
}

// slicesOf is so many rules that say the same.
func slicesOf(n int, says string) []api.Rule {
	return fill(n, func(int) api.Rule { return api.Rule{Says: []string{says}} })
}
