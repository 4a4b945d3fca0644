package desk

import (
	"fmt"
	"strings"
	"testing"

	"tariff/api"
	"tariff/bind"
	"tariff/calc"
	"tariff/code"
	"tariff/dec"
	"tariff/dsl"
	"tariff/expr"
	"tariff/model"
	"tariff/show"
	"tariff/sweep"
	"tariff/value"
)

// The ten examples of the whole that the document gives.

// decimal is the number of a text.
func decimal(t *testing.T, s string) api.Dec {
	t.Helper()
	d, e := dec.Parse(s)
	if e != api.OK {
		t.Fatal(s, e)
	}
	return d
}

// decided is what an expression comes to, with a context of names.
func decided(t *testing.T, text, names string) string {
	t.Helper()
	nodes, e := expr.Parse(text)
	if e != api.OK {
		t.Fatal(text, e)
	}
	v, e := value.Read(names)
	if e != api.OK {
		t.Fatal(names, e)
	}
	result, e := calc.Eval(nodes, v)
	if e != api.OK {
		return failure(e)
	}
	s, _ := value.Print(result)
	return s
}

// Examples 1 to 4: decimals and expressions.
func TestExpressions(t *testing.T) {
	sum, e := dec.Add(decimal(t, "0.1"), decimal(t, "0.2"))
	if sum != decimal(t, "0.3") || e != api.OK {
		t.Error(sum, e)
	}
	third, e := dec.Div(decimal(t, "1"), decimal(t, "3"))
	if third.Scale != 18 || e != api.OK {
		t.Error(third, e)
	}
	nodes, e := expr.Parse("a + 2 * b")
	text, f := show.Print(nodes, false)
	list, g := code.Compile(nodes, false)
	if len(nodes) != 5 || text != "a + 2 * b" || len(list) != 5 || e != api.OK || f != api.OK || g != api.OK {
		t.Error(nodes, text, list, e, f, g)
	}
	for _, c := range [][3]string{{"if x > 2 then 1 else 1 / 0", "{x: 3}", "1"}, {"if x > 2 then 1 else 1 / 0", "{x: 1}", "error 4"}, {`x = "a"`, "{x: 1}", "null"}} {
		if got := decided(t, c[0], c[1]); got != c[2] {
			t.Error(c, got)
		}
	}
}

// tabled is a model with a table t of rules like "< 10 => 1" over the number x.
func tabled(sign string, rules ...string) string {
	b := "model m \"\"\ninput i x : number\ndecision t y\nneeds i\ntable " + sign + "\nin number : x\nout o\n"
	for _, r := range rules {
		b += "| " + r + "\n"
	}
	return b
}

// Examples 5 to 7: tables.
func TestTables(t *testing.T) {
	for _, c := range []struct{ b, line, want string }{
		{tabled("U", `< 10 => "low"`, `>= 10 => "high"`), "gaps t", "complete"}, {tabled("U", `< 10 => "low"`, `>= 10 => "high"`), "twice t", "apart"},
		{tabled("U", "< 5 => 1", "> 5 => 2"), "gaps t", "1 of 3 1-1"}, {tabled("U", "< 5 => 1", "> 5 => 2"), "twice t", "apart"},
		{tabled("U", "< 5 => 1.5", "> 1 => 2"), "eval t {x: 3}", "error 14"}, {tabled("C", "< 5 => 1.5", "> 1 => 2"), "eval t {x: 3}", "[1.5, 2]"}, {tabled("C+", "< 5 => 1.5", "> 1 => 2"), "eval t {x: 3}", "3.5"},
	} {
		hold(t, c.b, c.line, c.want)
	}
	r, e := sweep.Analyze(read(t, tabled("U", "< 5 => 1", "> 5 => 2")), "t")
	if fmt.Sprint(r.Gaps) != "[[(1+2i)]]" || r.Missing != 1 || r.Cells != 3 || e != api.OK {
		t.Error(r, e)
	}
}

// Examples 8 to 10: one model in both forms, and what is played for both.
func TestBothForms(t *testing.T) {
	m := api.Model{Id: "m", Name: "Prices", Inputs: []api.Input{{Id: "i", Name: "x", Item: "number"}}, Decisions: []api.Decision{{Id: "d", Name: "y", Needs: []string{"i"}, Text: "x * 2"}}}
	doc, e := bind.WriteXML(m)
	text, f := dsl.Write(m)
	if strings.Count(doc, "\n") != 14 || text != "model m \"Prices\"\ninput i x : number\n\ndecision d y\n  needs i\n  = x * 2\n" || e != api.OK || f != api.OK {
		t.Error(doc, text, e, f)
	}
	remarks := "# A remark\n\n" + strings.ReplaceAll(text, "\n", "\n\t\n  # and \"another\n")
	lines := []string{"plan", "scope d", "eval d {x: 2}", "eval d {}", "xml", "again xml", "dsl", "again dsl", "xml", "all {x: 0.1}", "gaps d", "hits d {}"}
	want := []string{"d", "x:number", "4", "null", doc, "same", text, "same", doc, "d=0.2", "error 9", "error 9"}
	for _, b := range []string{doc, text, remarks} {
		if now, e := Load(b); !model.Same(now, m) || e != api.OK {
			t.Error(b, now, e)
		}
		if answers, e := Play(b, lines); fmt.Sprintf("%q", answers) != fmt.Sprintf("%q", want) || e != api.OK {
			t.Errorf("%s: %q %v", b, answers, e)
		}
	}
}

// P4: what the commands gaps, twice and count tell holds for the rules that match random values.
func TestAnalysesHold(t *testing.T) {
	s := &source{state: 276}
	complete, apart := 0, 0
	for range 60 {
		n := s.below(4)
		m := read(t, tabled("C", fill(n, func(int) string { return s.test("number") + " => 1" })...))
		gaps, twice, count := holdCommand(t, m, "gaps t"), holdCommand(t, m, "twice t"), holdCommand(t, m, "count t")
		if strings.HasPrefix(count, "0 ") != (gaps == "complete") || (len(strings.Fields(count)) <= 2) != (twice == "apart") {
			t.Error(gaps, twice, count)
		}
		for range 30 {
			x := pick(s, s.literal(api.Num), "0.000000000000000001", "-9999999999999999999999999999999999", "6.5", "100")
			hits := strings.Fields(holdCommand(t, m, "hits t {x: "+x+"}"))
			if gaps == "complete" && len(hits) == 0 || twice == "apart" && len(hits) > 1 || len(hits) == 2 && !strings.Contains(twice, hits[0]+"+"+hits[1]+":") {
				t.Error(x, hits, gaps, twice)
			}
			if gaps == "complete" {
				complete++
			}
			if twice == "apart" {
				apart++
			}
		}
	}
	if complete < 200 || apart < 200 {
		t.Error(complete, apart)
	}
}
