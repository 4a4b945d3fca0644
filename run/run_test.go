package run

import (
	"fmt"
	"strings"
	"testing"

	"tariff/api"
	"tariff/model"
	"tariff/value"
)

// pieces is the pieces of a text between semicolons; of an empty text none.
func pieces(s string) []string {
	if s == "" {
		return nil
	}
	return strings.Split(s, "; ")
}

// columns is columns of texts like "item: text", or "text" alone.
func columns(s string) []api.Column {
	var list []api.Column
	for _, p := range pieces(s) {
		item, text, ok := strings.Cut(p, ": ")
		if !ok {
			item, text = "", p
		}
		list = append(list, api.Column{Text: text, Item: item})
	}
	return list
}

// table is a decision by a table, whose rules are texts like "test; test => output; output".
func table(policy int, ins, outs, other string, rules ...string) api.Decision {
	t := api.Table{Policy: policy, Ins: columns(ins), Outs: columns(outs), Default: pieces(other)}
	for _, r := range rules {
		tests, says, _ := strings.Cut(r, "=> ")
		t.Rules = append(t.Rules, api.Rule{Tests: pieces(strings.TrimSuffix(tests, " ")), Says: pieces(says)})
	}
	return api.Decision{Table: t}
}

// typed is a decision of that item.
func typed(item string, d api.Decision) api.Decision {
	d.Item = item
	return d
}

// valued is a decision by a table whose last output lists values.
func valued(d api.Decision, values ...string) api.Decision {
	d.Table.Outs[len(d.Table.Outs)-1].Values = values
	return d
}

// items are types with something allowed, and without.
func items() []api.Item {
	number, text := api.Type{Kind: api.Num}, api.Type{Kind: api.Text}
	return []api.Item{{Name: "low", Type: number, Allowed: "< 10"}, {Name: "mixed", Allowed: `1, "a"`}, {Name: "tier", Type: text, Allowed: `"a", "b"`}, {Name: "free", Type: number}, {Name: "odd", Type: number, Allowed: "not(2, 4)"}, {Name: "all", Type: number, Allowed: "-"}}
}

// single is a model of a decision d, which needs the inputs v and w of any type.
func single(d api.Decision) api.Model {
	d.Id, d.Name, d.Needs = "d", "result", []string{"i", "k"}
	return api.Model{Id: "m", Items: items(), Inputs: []api.Input{{Id: "i", Name: "v"}, {Id: "k", Name: "w"}}, Decisions: []api.Decision{d}}
}

// Expressions that end in an error.
const (
	zero = "1 / 0"                                  // error 4
	far  = `days(@"9999-12-31", 1)`                 // error 17
	over = "9999999999999999999999999999999999 + 1" // error 3
)

// P19.1, P19.2: the chapter's examples.
func TestExamples(t *testing.T) {
	made := func(policy int, first string, rules ...string) api.Model {
		b := table(policy, "a", "out", "", append([]string{`< 10 => "low"`, `>= 10 => "high"`}, rules...)...)
		b.Id, b.Name, b.Needs = "b", "b", []string{"a"}
		return api.Model{Id: "m", Inputs: []api.Input{{Id: "i", Name: "x", Item: "number"}}, Decisions: []api.Decision{{Id: "a", Name: "a", Needs: []string{"i"}, Text: first}, b}}
	}
	third := `[5..20] => "mid"`
	for _, c := range []struct {
		m                api.Model
		id, inputs, want string
	}{
		{made(api.Unique, "x * 2"), "b", "{x: 3}", `"low"`}, {made(api.Unique, "x * 2"), "b", "{x: 5}", `"high"`}, {made(api.Unique, "x * 2"), "a", `{x: "t"}`, "error 16"}, {made(api.Unique, "x * 2"), "a", "{}", "null"}, {made(api.Unique, "x * 2"), "b", "{}", "null"},
		{made(api.Unique, "x * 2", third), "b", "{x: 3}", "error 14"}, {made(api.First, "x * 2", third), "b", "{x: 3}", `"low"`}, {made(api.Collect, "x * 2", third), "b", "{x: 3}", `["low", "mid"]`},
		{made(api.Unique, "x / 0"), "a", "{x: 5}", "error 4"}, {made(api.Unique, "x / 0"), "b", "{x: 5}", "error 4"},
	} {
		if got := answer(Eval(c.m, c.id, read(c.inputs))); got != c.want {
			t.Errorf("Eval(%s, %s): %s, want %s", c.id, c.inputs, got, c.want)
		}
		hold(t, c.m, read(c.inputs))
	}
	m := made(api.Unique, "x * 2")
	if got := listed(Matches(m, "b", read("{a: 12}"))); got != "[1]" {
		t.Error(got)
	}
	if got := answer(Local(m, "b", read("{a: 12}"))); got != `"high"` {
		t.Error(got)
	}
	if got := outcomes(All(m, read("{x: 5}"))); got != `a=10 b="high"` {
		t.Error(got)
	}
	if got := outcomes(All(made(api.Unique, "x / 0"), read("{x: 5}"))); got != `a=error 4 b=error 4` {
		t.Error(got)
	}
}

// A trial is a decision over v and w, its rules that match with some values of them, and its value.
type trial struct {
	d                    api.Decision
	names, matches, want string
}

// try holds the answers for each trial against what is written there, and the oracle's.
func try(t *testing.T, list []trial) {
	t.Helper()
	for i, c := range list {
		m := single(c.d)
		if e := model.Validate(m); e != api.OK {
			t.Errorf("trial %d: %v", i, e)
			continue
		}
		names := read(c.names)
		if got := answer(Local(m, "d", names)); got != c.want {
			t.Errorf("trial %d: Local: %s, want %s", i, got, c.want)
		}
		if got := listed(Matches(m, "d", names)); got != c.matches {
			t.Errorf("trial %d: Matches: %s, want %s", i, got, c.matches)
		}
		if got := answer(Eval(m, "d", names)); got != c.want {
			t.Errorf("trial %d: Eval: %s, want %s", i, got, c.want)
		}
		holdLocal(t, m, m.Decisions[0], names)
		hold(t, m, names)
	}
}

// P19.1: decisions by an expression, and their types.
func TestTexts(t *testing.T) {
	text := func(item, s string) api.Decision { return api.Decision{Item: item, Text: s} }
	var list []trial
	for _, c := range []struct{ item, text, names, want string }{
		{"", "v", "{v: 1}", "1"}, {"", "v", "{}", "null"}, {"", "v", "{w: 1}", "null"}, {"", "v + w", "{w: 1, extra: 7, v: 2}", "3"}, {"", "[v, w]", `{v: {a: 1}, w: "x"}`, `[{a: 1}, "x"]`}, {"", "v.a", "{v: {a: [1]}}", "[1]"},
		{"", zero, "{}", "error 4"}, {"", far, "{}", "error 17"}, {"", over, "{}", "error 3"}, {"", "1 / v", "{v: 0}", "error 4"}, {"", "1 / v", "{v: 4}", "0.25"}, {"", "if v then w else " + zero, "{v: true, w: 2}", "2"}, {"", "if v then w else " + zero, "{v: 5, w: 2}", "error 4"},
		// The value must fit the type, whatever is allowed; null fits each one.
		{"number", "v", "{v: 1}", "1"}, {"number", "v", `{v: "x"}`, "error 9"}, {"number", "v", "{}", "null"}, {"number", "v", "{v: [1]}", "error 9"}, {"string", "v", `{v: "x"}`, `"x"`}, {"string", "v", "{v: 1}", "error 9"}, {"date", "v", `{v: @"2024-01-31"}`, `@"2024-01-31"`}, {"boolean", "v", "{v: true}", "true"}, {"boolean", "v", "{v: 0}", "error 9"}, {"any", "v", "{v: {a: 1}}", "{a: 1}"},
		{"list<number>", "v", "{v: [1, null]}", "[1, null]"}, {"list<number>", "v", `{v: [1, "x"]}`, "error 9"}, {"list<number>", "v", "{v: 1}", "error 9"}, {"list<any>", "v", `{v: [1, "x"]}`, `[1, "x"]`}, {"list<any>", "v", "{v: {}}", "error 9"},
		{"low", "v", "{v: 50}", "50"}, {"low", "v", `{v: "x"}`, "error 9"}, {"low", "50", "{}", "50"}, {"tier", "v", `{v: "z"}`, `"z"`}, {"tier", "v", "{v: 1}", "error 9"}, {"mixed", "v", "{v: 7}", "7"},
		// An error of the expression comes ahead of that of the type.
		{"string", "if w then v / 0 else v", "{v: 1, w: true}", "error 4"}, {"string", "if w then v / 0 else v", "{v: 1}", "error 9"},
	} {
		list = append(list, trial{text(c.item, c.text), c.names, "error 9", c.want})
	}
	try(t, list)
}

// P19.1: the values of input columns, what they must fit, and which error is the first.
func TestColumns(t *testing.T) {
	one := func(ins string) api.Decision { return table(api.Collect, ins, "o", "", "- => 1") }
	two := func(ins string) api.Decision {
		return table(api.Collect, ins, "o", "", "-; - => 1", "< "+zero+"; - => 2")
	}
	var list []trial
	add := func(d api.Decision, names, matches, want string) { list = append(list, trial{d, names, matches, want}) }
	for _, c := range []struct{ ins, names string }{
		{"number: v", "{v: 1}"}, {"number: v", "{}"}, {"number: v", "{v: null}"}, {"string: v", `{v: "5"}`}, {"v", "{v: {a: 1}}"}, {"any: v", "{v: [1]}"}, {"list<number>: v", "{v: [1, null]}"}, {"list<any>: v", `{v: [1, "x"]}`}, {"low: v", "{v: 9}"}, {"low: v", "{v: -9}"}, {"low: v", "{}"}, {"low: 9 - w", "{w: 10}"}, {"mixed: v", "{v: 1}"}, {"mixed: v", `{v: "a"}`}, {"mixed: v", "{v: null}"}, {"tier: v", `{v: "b"}`}, {"free: v", "{v: 99}"}, {"odd: v", "{v: 3}"}, {"odd: v", "{}"}, {"all: v", "{v: 1}"}, {"all: v", "{v: 2}"},
	} {
		add(one(c.ins), c.names, "[0]", "[1]")
	}
	add(table(api.Collect, "number: v", "o", "", "5 => 1", "4 => 2"), "{v: 5}", "[0]", "[1]")
	add(table(api.Collect, "low: v + w", "o", "", "4 => 1", "5 => 2"), "{v: 3, w: 2, low: 7}", "[1]", "[2]")
	for _, c := range []struct{ ins, names string }{
		{"number: v", `{v: "5"}`}, {"number: v", "{v: [5]}"}, {"string: v", "{v: 5}"}, {"boolean: v", "{v: 0}"}, {"date: v", `{v: "2024-01-31"}`}, {"list<number>: v", `{v: ["x"]}`}, {"list<any>: v", "{v: 1}"}, {"low: v", "{v: 10}"}, {"low: v", `{v: "x"}`}, {"low: v + 1", "{v: 9}"}, {"tier: v", `{v: "c"}`}, {"tier: v", "{v: 1}"}, {"odd: v", "{v: 4}"}, {"all: v", `{v: "x"}`}, {"free: v", "{v: true}"},
		// What can't be told is not true.
		{"mixed: v", `{v: "b"}`}, {"mixed: v", "{v: 2}"}, {"mixed: v", "{v: true}"}, {"mixed: v", "{v: [1]}"},
	} {
		add(one(c.ins), c.names, "error 16", "error 16")
	}
	for _, c := range []struct{ ins, names, want string }{
		{zero, "{}", "error 4"}, {"number: v; " + zero, "{}", "error 4"}, {"number: v; " + zero, `{v: "x"}`, "error 16"}, {zero + "; number: v", `{v: "x"}`, "error 4"}, {"low: v; " + zero, "{v: 10}", "error 16"}, {zero + "; low: v", "{v: 10}", "error 4"}, {far + "; " + zero, "{}", "error 17"}, {zero + "; " + far, "{}", "error 4"}, {"low: v; low: w", "{v: 1, w: 10}", "error 16"}, {"low: v; low: w", "{v: 10, w: 1}", "error 16"}, {"number: v; string: w", `{v: 1, w: 2}`, "error 16"},
		// All columns come ahead of all rules.
		{"v; low: w", "{w: 10}", "error 16"}, {"v; " + far, "{}", "error 17"}, {"v; w", "{w: 10}", "error 4"},
	} {
		d := two(c.ins)
		if strings.Count(c.ins, ";") == 0 {
			d = one(c.ins)
		}
		add(d, c.names, c.want, c.want)
	}
	try(t, list)
}

// P19.1: which rules match, and how far tests are asked.
func TestRules(t *testing.T) {
	try(t, []trial{
		{table(api.RuleOrder, "v", "o", "", "1 => 1", "< 5 => 2", "not(1) => 3", "- => 4", `"a" => 5`, "> w => 6", "null => 7"), "{v: 1, w: 0}", "[0 1 3 5]", "[1, 2, 4, 6]"}, {table(api.RuleOrder, "v", "o", "", "1 => 1", "< 5 => 2", "not(1) => 3", "- => 4", `"a" => 5`, "> w => 6", "null => 7"), `{v: "a"}`, "[3 4]", "[4, 5]"}, {table(api.RuleOrder, "v", "o", "", "1 => 1", "< 5 => 2", "not(1) => 3", "- => 4", `"a" => 5`, "> w => 6", "null => 7"), "{}", "[2 3 6]", "[3, 4, 7]"},
		{table(api.Collect, "v; w", "o", "", "1; 2 => 1", "-; 2 => 2", "1; - => 3", "2; 1 => 4", "v; w => 5"), "{v: 1, w: 2}", "[0 1 2 4]", "[1, 2, 3, 5]"}, {table(api.Collect, "v; w", "o", "", "1; 2 => 1", "-; 2 => 2", "1; - => 3", "2; 1 => 4", "v; w => 5"), "{v: 2, w: 1}", "[3 4]", "[4, 5]"}, {table(api.Collect, "v + w; v - w", "o", "", "3; -1 => 1", "-1; 3 => 2"), "{v: 1, w: 2}", "[0]", "[1]"},
		// Without columns each rule matches; without rules none does.
		{table(api.Collect, "", "o", "", "=> 1", "=> 2", "=> v"), "{v: 3}", "[0 1 2]", "[1, 2, 3]"}, {table(api.First, "", "o", "", "=> v", "=> 2"), "{v: 3}", "[0]", "3"}, {table(api.Collect, "v", "o", ""), "{v: 3}", "[]", "[]"}, {table(api.Unique, "", "o", ""), "{}", "[]", "null"},
		// The first test that isn't true ends a rule, be it false or null.
		{table(api.Collect, "v; w", "o", "", "1; < "+zero+" => 1", "-; - => 2"), "{v: 2}", "[1]", "[2]"}, {table(api.Collect, "v; w", "o", "", "1; < "+zero+" => 1", "-; - => 2"), `{v: "x"}`, "[1]", "[2]"}, {table(api.Collect, "v; w", "o", "", "1; < "+zero+" => 1", "-; - => 2"), "{v: 1}", "error 4", "error 4"}, {table(api.Collect, "v; w", "o", "", "< "+zero+"; 1 => 1", "-; - => 2"), "{v: 2}", "error 4", "error 4"},
		{table(api.Collect, "v; w; v", "o", "", "1; 2; < "+zero+" => 1", "1; 1; 1 => 2"), "{v: 1, w: 1}", "[1]", "[2]"}, {table(api.Collect, "v; w; v", "o", "", "1; 2; < "+zero+" => 1", "1; 1; 1 => 2"), "{v: 1, w: 2}", "error 4", "error 4"},
		{table(api.Collect, "v", "o", "", "< "+zero+" => 1", "< "+far+" => 2"), "{}", "error 4", "error 4"}, {table(api.Collect, "v", "o", "", "< "+far+" => 2", "< "+zero+" => 1"), "{}", "error 17", "error 17"},
		// First asks no rule behind the first one that matches; the others ask all.
		{table(api.First, "v", "o", "", "2 => 1", "1 => 2", "< "+zero+" => 3"), "{v: 1}", "[1]", "2"}, {table(api.First, "v", "o", "", "2 => 1", "1 => 2", "< "+zero+" => 3"), "{v: 3}", "error 4", "error 4"}, {table(api.First, "v", "o", "", "< "+zero+" => 3", "1 => 2"), "{v: 1}", "error 4", "error 4"}, {table(api.Unique, "v", "o", "", "1 => 2", "< "+zero+" => 3"), "{v: 1}", "error 4", "error 4"}, {table(api.Any, "v", "o", "", "1 => 2", "< "+zero+" => 3"), "{v: 1}", "error 4", "error 4"}, {valued(table(api.Priority, "v", "o", "", "1 => 2", "< "+zero+" => 3"), "2"), "{v: 1}", "error 4", "error 4"}, {table(api.First, "v", "o", "", "1 => 2", "- => 3"), "{v: 1}", "[0]", "2"}, {table(api.First, "v", "o", "7", "1 => 2", "1 => 3"), "{v: 2}", "[]", "7"},
	})
}

// P19.1: which outputs are evaluated, what they must fit, and which error is the first.
func TestOutputs(t *testing.T) {
	try(t, []trial{
		// Those of rules that match, and the default only if there is none.
		{table(api.Collect, "v", "o", "", "1 => "+zero, "2 => 2"), "{v: 2}", "[1]", "[2]"}, {table(api.Collect, "v", "o", "", "1 => "+zero, "2 => 2"), "{v: 1}", "[0]", "error 4"}, {table(api.First, "", "o", zero, "=> 1", "=> "+zero), "{}", "[0]", "1"}, {table(api.Unique, "v", "o", zero, "1 => 1"), "{v: 1}", "[0]", "1"}, {table(api.Unique, "v", "o", zero, "1 => 1"), "{v: 2}", "[]", "error 4"}, {table(api.Unique, "v", "o", "w", "1 => 1"), "{v: 2, w: [3]}", "[]", "[3]"}, {table(api.Unique, "v", "o", "", "1 => 1"), "{v: 2}", "[]", "null"}, {table(api.Collect, "v", "o", "9", "1 => 1"), "{v: 2}", "[]", "[9]"}, {table(api.Collect, "v", "o", "", "1 => 1"), "{v: 2}", "[]", "[]"}, {table(api.CollectNum, "v", "o", "9", "1 => 1"), "{v: 2}", "[]", "1"}, {table(api.CollectNum, "v", "o", "", "1 => 1"), "{v: 2}", "[]", "0"},
		// Several outputs; an error of any of them is that of the whole.
		{table(api.Unique, "", "a; b", "", "=> v; w"), "{v: 1, w: 2}", "[0]", "{a: 1, b: 2}"}, {table(api.Collect, "", "b; a", "", "=> v; w", "=> 3; v"), "{v: 1, w: 2}", "[0 1]", "[{b: 1, a: 2}, {b: 3, a: 1}]"}, {table(api.Unique, "v", "a; b", "w; v", "1 => 1; 2"), "{v: 5, w: 6}", "[]", "{a: 6, b: 5}"}, {table(api.First, "", "a; b", "", "=> 1; "+zero), "{}", "[0]", "error 4"}, {table(api.Unique, "v", "a; b", "1; "+far, "1 => 1; 2"), "{}", "[]", "error 17"},
		// They must fit the type of their column, not be among what it allows.
		{table(api.Unique, "", "number: o", "", "=> v"), `{v: "x"}`, "[0]", "error 9"}, {table(api.Unique, "", "number: o", "", "=> v"), "{}", "[0]", "null"}, {table(api.Unique, "", "number: o", "", "=> v"), "{v: 5}", "[0]", "5"}, {table(api.Unique, "v", "number: o", "v", "1 => 1"), `{v: "x"}`, "[]", "error 9"}, {table(api.Unique, "", "low: o", "", "=> v"), "{v: 50}", "[0]", "50"}, {table(api.Unique, "", "low: o", "", "=> v"), `{v: "x"}`, "[0]", "error 9"}, {table(api.Unique, "v", "tier: o", "v", `"a" => v`), `{v: "z"}`, "[]", `"z"`}, {table(api.Unique, "", "a; number: b", "", "=> v; w"), `{v: "x", w: "x"}`, "[0]", "error 9"}, {table(api.Unique, "", "number: a; b", "", "=> v; w"), `{v: 1, w: "x"}`, "[0]", `{a: 1, b: "x"}`}, {table(api.Collect, "", "list<number>: o", "", "=> v", "=> w"), `{v: [1], w: ["x"]}`, "[0 1]", "error 9"},
		// One value after the other: an error of the one ahead is told.
		{table(api.Collect, "", "a; b", "", "=> "+zero+"; "+far), "{}", "[0]", "error 4"}, {table(api.Collect, "", "a; b", "", "=> "+far+"; "+zero), "{}", "[0]", "error 17"}, {table(api.Collect, "", "a", "", "=> "+zero, "=> "+far), "{}", "[0 1]", "error 4"}, {table(api.Collect, "", "a", "", "=> "+far, "=> "+zero), "{}", "[0 1]", "error 17"}, {table(api.Collect, "", "a; b", "", "=> 1; "+far, "=> "+zero+"; 2"), "{}", "[0 1]", "error 17"}, {table(api.Collect, "", "number: a; b", "", "=> v; "+zero), `{v: "x"}`, "[0]", "error 9"}, {table(api.Collect, "", "a; number: b", "", "=> "+zero+"; v"), `{v: "x"}`, "[0]", "error 4"}, {table(api.Collect, "", "number: a", "", "=> v", "=> "+zero), `{v: "x"}`, "[0 1]", "error 9"}, {table(api.Collect, "", "number: a", "", "=> "+zero, "=> v"), `{v: "x"}`, "[0 1]", "error 4"}, {table(api.Unique, "v", "a; number: b", zero+"; v", "1 => 1; 1"), `{v: "x"}`, "[]", "error 4"}, {table(api.Unique, "v", "number: a; b", "v; "+zero, "1 => 1; 1"), `{v: "x"}`, "[]", "error 9"},
		// All rules are asked ahead of any output, and all outputs evaluated ahead of what the policy says.
		{table(api.Collect, "v", "o", "", "- => "+zero, "< "+far+" => 1"), "{}", "error 17", "error 17"}, {table(api.First, "v", "o", "", "- => "+zero, "< "+far+" => 1"), "{}", "[0]", "error 4"}, {table(api.Unique, "", "o", "", "=> 1", "=> "+zero), "{}", "[0 1]", "error 4"}, {table(api.Unique, "", "number: o", "", "=> 1", "=> v"), `{v: "x"}`, "[0 1]", "error 9"}, {table(api.Any, "", "o", "", "=> 1", "=> 2", "=> "+zero), "{}", "[0 1 2]", "error 4"}, {table(api.CollectSum, "", "o", "", "=> v", "=> v", "=> "+zero), "{v: 9999999999999999999999999999999999}", "[0 1 2]", "error 4"},
	})
}

// P19.1: each policy, its errors, and the type of what it makes.
func TestPolicies(t *testing.T) {
	rules := []string{"< 3 => 1", "< 2 => 1", "> 5 => 2", "> 6 => w"}
	var list []trial
	for _, c := range []struct {
		policy             int
		one, same, two, no string
	}{
		{api.Unique, "1", "error 14", "error 14", "null"}, {api.Any, "1", "1", "error 15", "null"}, {api.Priority, "1", "1", "-7", "null"}, {api.First, "1", "1", "2", "null"}, {api.RuleOrder, "[1]", "[1, 1]", "[2, -7]", "[]"}, {api.OutOrder, "[1]", "[1, 1]", "[-7, 2]", "[]"}, {api.Collect, "[1]", "[1, 1]", "[2, -7]", "[]"}, {api.CollectSum, "1", "2", "-5", "null"}, {api.CollectMin, "1", "1", "-7", "null"}, {api.CollectMax, "1", "1", "2", "null"}, {api.CollectNum, "1", "2", "2", "0"},
	} {
		d := func() api.Decision { return valued(table(c.policy, "v", "number: o", "", rules...), "-7", "1", "2") }
		first := func(s string) string { // First stops at one rule
			if c.policy == api.First {
				return strings.Fields(s)[0][:2] + "]"
			}
			return s
		}
		list = append(list, trial{d(), "{v: 2}", "[0]", c.one}, trial{d(), "{v: 1}", first("[0 1]"), c.same}, trial{d(), "{v: 9, w: -7}", first("[2 3]"), c.two}, trial{d(), "{v: 4}", "[]", c.no}, trial{d(), "{}", "[]", c.no})
	}
	long := fmt.Sprintf("{v: [%s0]}", strings.Repeat("0, ", 600))
	deep := "{v: " + strings.Repeat("[", 14) + strings.Repeat("]", 14) + "}"
	try(t, append(list, []trial{
		{table(api.Any, "", "o", "", "=> [v]", "=> [w]"), "{v: 1, w: 1}", "[0 1]", "[1]"}, {table(api.Any, "", "o", "", "=> [v]", "=> [w]"), "{v: 1, w: 2}", "[0 1]", "error 15"}, {table(api.CollectSum, "", "o", "", "=> v", "=> w"), "{v: 9999999999999999999999999999999999, w: 1}", "[0 1]", "error 3"}, {table(api.CollectSum, "", "o", "", "=> v", "=> w"), `{v: 1, w: "x"}`, "[0 1]", "null"}, {valued(table(api.Priority, "", "o", "", "=> v", "=> w"), `"b"`, `@"2024-01-31"`, "true", "-0.5"), "{v: -0.5, w: true}", "[0 1]", "true"}, {valued(table(api.OutOrder, "", "o", "", "=> 1", "=> v", "=> w"), `"b"`, `@"2024-01-31"`, "true", "-0.5"), `{v: -0.5, w: @"2024-01-31"}`, "[0 1 2]", `[@"2024-01-31", -0.5, 1]`}, {valued(table(api.OutOrder, "", "a; b", "", "=> v; w", "=> w; v"), "2", "1"), "{v: 2, w: 1}", "[0 1]", "[{a: 1, b: 2}, {a: 2, b: 1}]"},
		// A result that is too long or too deep; the type of the decision is asked for behind that.
		{table(api.Collect, "", "o", "", "=> v", "=> v"), long, "[0 1]", "error 6"}, {table(api.First, "", "o", "", "=> v", "=> v"), long, "[0]", long[4 : len(long)-1]}, {table(api.Collect, "", "o", "", "=> v"), deep, "[0]", "[" + deep[4:len(deep)-1] + "]"}, {table(api.Collect, "", "o", "", "=> [v]"), deep, "[0]", "[[" + deep[4:len(deep)-1] + "]]"}, {table(api.Collect, "", "o", "", "=> [[v]]"), deep, "[0]", "error 7"}, {table(api.Unique, "", "a; b", "", "=> [[v]]; 1"), deep, "[0]", "error 7"}, {typed("number", table(api.Unique, "", "o", "", "=> 1", "=> v")), "{v: 2}", "[0 1]", "error 14"},
		{typed("number", table(api.Unique, "", "o", "", "=> v")), `{v: "x"}`, "[0]", "error 9"}, {typed("number", table(api.Unique, "", "o", "", "=> v")), "{v: 1}", "[0]", "1"}, {typed("number", table(api.Unique, "v", "o", "w", "1 => v")), "{v: 2, w: true}", "[]", "error 9"}, {typed("number", table(api.Unique, "v", "o", "", "1 => v")), "{v: 2}", "[]", "null"}, {typed("list<number>", table(api.Collect, "", "o", "", "=> v", "=> w")), "{v: 2}", "[0 1]", "[2, null]"}, {typed("list<number>", table(api.Collect, "", "o", "", "=> v", "=> w")), "{v: 2, w: true}", "[0 1]", "error 9"}, {typed("low", table(api.CollectSum, "", "o", "", "=> v", "=> w")), "{v: 6, w: 6}", "[0 1]", "12"}, {typed("boolean", table(api.First, "", "a; b", "", "=> v; w")), "{}", "[0]", "error 9"},
	}...))
}

// P1, P19.1, P19.2: the errors of what is handed in, in their order.
func TestErrors(t *testing.T) {
	good := single(table(api.Collect, "v", "o", "", "1 => 1"))
	good.Decisions = append(good.Decisions, api.Decision{Id: "e", Name: "other", Text: "1"})
	invalid := func(change func(m *api.Model)) api.Model {
		m := single(table(api.Collect, "v", "o", "", "1 => 1"))
		change(&m)
		return m
	}
	bare, open := single(table(api.Collect, "", "o", "")), single(table(api.Collect, "", "o", "", "=> 1")) // without anything to evaluate
	long := api.Value{Kind: api.Ctx, List: make([]api.Value, 1000)}
	deep := api.Value{Kind: api.Ctx, Names: []string{"v"}, List: []api.Value{read(strings.Repeat("[", 15) + strings.Repeat("]", 15))}}
	deeper := api.Value{Kind: api.Ctx, Names: []string{"v"}, List: []api.Value{read(strings.Repeat("[", 16) + strings.Repeat("]", 16))}}
	odd, twice := api.Value{Kind: api.Ctx, List: make([]api.Value, 1)}, api.Value{Kind: api.Ctx, Names: []string{"v", "v"}, List: make([]api.Value, 2)}
	self := api.Value{Kind: api.Ctx, List: make([]api.Value, 1), Names: []string{"v"}}
	self.List[0] = self
	null, number, list := api.Value{}, read("1"), read("[1]")
	for i, c := range []struct {
		m                   api.Model
		id                  string
		v                   api.Value
		matches, other, all api.Errno
	}{
		{good, "d", read("{}"), api.OK, api.OK, api.OK}, {good, "e", read("{}"), api.ErrType, api.OK, api.OK}, {good, "d", deep, api.OK, api.OK, api.OK},
		{invalid(func(m *api.Model) { m.Items = make([]api.Item, 41) }), "z", long, api.ErrLong, api.ErrLong, api.ErrLong}, {invalid(func(m *api.Model) { m.Id = "" }), "z", long, api.ErrForm, api.ErrForm, api.ErrForm}, {invalid(func(m *api.Model) { m.Inputs[0].Name = "w" }), "z", long, api.ErrTwice, api.ErrTwice, api.ErrTwice}, {invalid(func(m *api.Model) { m.Inputs[0].Item = "z" }), "d", null, api.ErrName, api.ErrName, api.ErrName}, {invalid(func(m *api.Model) { m.Decisions[0].Needs[0] = "d" }), "z", null, api.ErrCycle, api.ErrCycle, api.ErrCycle}, {invalid(func(m *api.Model) { m.Decisions[0].Table.Ins[0].Text = `1 + "a"` }), "z", long, api.ErrType, api.ErrType, api.ErrType}, {invalid(func(m *api.Model) { m.Decisions[0].Table.Policy = 3 }), "z", number, api.ErrMiss, api.ErrMiss, api.ErrMiss}, {api.Model{}, "", null, api.ErrForm, api.ErrForm, api.ErrForm}, {invalid(func(m *api.Model) { m.Id = "" }), "d", read("{}"), api.ErrForm, api.ErrForm, api.ErrForm},
		{good, "z", read("{}"), api.ErrName, api.ErrName, api.OK}, {good, "z", long, api.ErrName, api.ErrName, api.ErrLong}, {good, "z", number, api.ErrName, api.ErrName, api.ErrType}, {good, "", read("{}"), api.ErrName, api.ErrName, api.OK}, {good, "i", read("{}"), api.ErrName, api.ErrName, api.OK}, {good, "result", read("{}"), api.ErrName, api.ErrName, api.OK}, {good, "v", read("{}"), api.ErrName, api.ErrName, api.OK}, {good, "D", read("{}"), api.ErrName, api.ErrName, api.OK}, {api.Model{Id: "m"}, "m", read("{}"), api.ErrName, api.ErrName, api.OK},
		{good, "e", long, api.ErrType, api.ErrLong, api.ErrLong}, {good, "d", long, api.ErrLong, api.ErrLong, api.ErrLong}, {good, "d", deeper, api.ErrDeep, api.ErrDeep, api.ErrDeep}, {good, "e", deeper, api.ErrType, api.ErrDeep, api.ErrDeep}, {good, "d", odd, api.ErrForm, api.ErrForm, api.ErrForm}, {good, "d", twice, api.ErrForm, api.ErrForm, api.ErrForm}, {good, "d", self, api.ErrLong, api.ErrLong, api.ErrLong}, {good, "d", api.Value{Kind: 9}, api.ErrForm, api.ErrForm, api.ErrForm}, {good, "d", api.Value{Kind: 1, Day: 1}, api.ErrForm, api.ErrForm, api.ErrForm},
		{good, "d", null, api.ErrType, api.ErrType, api.ErrType}, {good, "d", number, api.ErrType, api.ErrType, api.ErrType}, {good, "d", list, api.ErrType, api.ErrType, api.ErrType}, {good, "e", list, api.ErrType, api.ErrType, api.ErrType}, {good, "d", read(`"{}"`), api.ErrType, api.ErrType, api.ErrType}, {good, "d", read("[]"), api.ErrType, api.ErrType, api.ErrType}, {good, "d", read("true"), api.ErrType, api.ErrType, api.ErrType},
		{bare, "d", read("{}"), api.OK, api.OK, api.OK}, {bare, "d", long, api.ErrLong, api.ErrLong, api.ErrLong}, {bare, "d", deeper, api.ErrDeep, api.ErrDeep, api.ErrDeep}, {bare, "d", odd, api.ErrForm, api.ErrForm, api.ErrForm}, {bare, "d", null, api.ErrType, api.ErrType, api.ErrType}, {bare, "d", list, api.ErrType, api.ErrType, api.ErrType}, {open, "d", long, api.ErrLong, api.ErrLong, api.ErrLong}, {open, "d", odd, api.ErrForm, api.ErrForm, api.ErrForm}, {open, "d", number, api.ErrType, api.ErrType, api.ErrType},
	} {
		l, e := Matches(c.m, c.id, c.v)
		if e != c.matches || e != api.OK && len(l) > 0 {
			t.Errorf("case %d: Matches: %v %v, want %v", i, l, e, c.matches)
		}
		for name, call := range map[string]func(api.Model, string, api.Value) (api.Value, api.Errno){"Local": Local, "Eval": Eval} {
			if v, e := call(c.m, c.id, c.v); e != c.other || e != api.OK && !value.Same(v, api.Value{}) {
				t.Errorf("case %d: %s: %s, want %v", i, name, answer(v, e), c.other)
			}
		}
		if o, e := All(c.m, c.v); e != c.all || e != api.OK && len(o) > 0 {
			t.Errorf("case %d: All: %v %v, want %v", i, o, e, c.all)
		}
	}
}

// listed is a list of rules with its error, as a text.
func listed(l []int, e api.Errno) string {
	if e != api.OK {
		return answer(api.Value{}, e)
	}
	return fmt.Sprint(l)
}

// outcomes is what decisions come to, as a text.
func outcomes(list []Outcome, e api.Errno) string {
	if e != api.OK {
		return answer(api.Value{}, e)
	}
	var texts []string
	for _, o := range list {
		texts = append(texts, o.Id+"="+answer(o.Value, o.Err))
	}
	return strings.Join(texts, " ")
}
