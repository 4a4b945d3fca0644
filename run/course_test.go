package run

import (
	"fmt"
	"slices"
	"strings"
	"testing"

	"tariff/api"
	"tariff/model"
)

// web is a model of inputs like "name: item" and decisions like "name: expression < needs". An id
// is its name in capitals.
func web(inputs string, decisions ...string) api.Model {
	m := api.Model{Id: "m", Items: items()}
	for _, s := range pieces(inputs) {
		name, item, _ := strings.Cut(s, ": ")
		m.Inputs = append(m.Inputs, api.Input{Id: strings.ToUpper(name), Name: name, Item: item})
	}
	for _, s := range decisions {
		name, rest, _ := strings.Cut(s, ": ")
		text, needs, _ := strings.Cut(rest, " < ")
		m.Decisions = append(m.Decisions, api.Decision{Id: strings.ToUpper(name), Name: name, Text: text, Needs: strings.Fields(strings.ToUpper(needs))})
	}
	return m
}

// holdAll holds what the decisions of a model come to against a text.
func holdAll(t *testing.T, m api.Model, inputs, want string) {
	t.Helper()
	if e := model.Validate(m); e != api.OK {
		t.Error(m, e)
		return
	}
	if got := outcomes(All(m, read(inputs))); got != want {
		t.Errorf("All(%v, %s): %s, want %s", m, inputs, got, want)
	}
	for _, d := range m.Decisions {
		got := answer(Eval(m, d.Id, read(inputs)))
		if !strings.Contains(" "+want+" ", " "+d.Id+"="+got+" ") {
			t.Errorf("Eval(%v, %s, %s): %s, want one of %s", m, d.Id, inputs, got, want)
		}
	}
	hold(t, m, read(inputs))
}

// P19.2: the inputs that are looked at, what they must be, and that their error is the first.
func TestInputs(t *testing.T) {
	m := web("a: low; b: tier; c", "d: a + 1 < a", "e: b < b", "f: [d, c] < d c", "g: 7")
	for _, c := range []struct{ inputs, want string }{
		{`{a: 1, b: "b", c: {x: 2}}`, `D=2 E="b" F=[2, {x: 2}] G=7`}, {"{}", "D=null E=null F=[null, null] G=7"}, {"{c: null, a: null}", "D=null E=null F=[null, null] G=7"}, {`{b: "a", a: 9.5}`, `D=10.5 E="a" F=[10.5, null] G=7`},
		// Ids are no names, and what is no input is ignored.
		{`{A: "x", B: 1, C: 5, d: 9, z: [1], a: 2}`, "D=3 E=null F=[3, null] G=7"},
		// An input is looked at where it is needed, directly or not.
		{"{a: 10, c: 1}", "D=error 16 E=null F=error 16 G=7"}, {`{a: "x"}`, "D=error 16 E=null F=error 16 G=7"}, {`{a: 1, b: "z"}`, "D=2 E=error 16 F=[2, null] G=7"}, {"{a: 1, b: 1}", "D=2 E=error 16 F=[2, null] G=7"}, {"{a: true, b: 1}", "D=error 16 E=error 16 F=error 16 G=7"}, {"{a: [1]}", "D=error 16 E=null F=error 16 G=7"},
	} {
		holdAll(t, m, c.inputs, c.want)
	}
	// What any type may be, and what can't be told to be allowed.
	for s, want := range map[string]string{"1": "1", `"a"`: `"a"`, "null": "null", "2": "error 16", `"b"`: "error 16", "true": "error 16", "[1]": "error 16"} {
		holdAll(t, web("a: mixed", "d: a < a"), "{a: "+s+"}", "D="+want)
	}
	for s, want := range map[string]string{"1": "1", "null": "null", "2": "error 16", "4": "error 16", "5": "5", `"b"`: "error 16"} {
		holdAll(t, web("a: odd", "d: a < a"), "{a: "+s+"}", "D="+want)
	}
	for s, want := range map[string]string{"[1]": "[1]", "[null]": "[null]", "null": "null", "[]": "[]", `["a"]`: "error 16", "1": "error 16"} {
		holdAll(t, web("a: list<number>", "d: a < a"), "{a: "+s+"}", "D="+want)
	}
	// It comes ahead of each decision's error, even where that one is needed by the same one.
	holdAll(t, web("a: low", "e: "+zero, "f: a < a", "g: [e, f] < e f", "h: [g] < g", "k: [e] < e"), "{a: 50}", "E=error 4 F=error 16 G=error 16 H=error 16 K=error 4")
	holdAll(t, web("a: low", "e: "+zero+" < a", "f: [e] < e"), "{a: 50}", "E=error 16 F=error 16")
}

// P19.2: of several errors, that of the decision that comes first in the plan is told.
func TestFirstError(t *testing.T) {
	for _, c := range []struct {
		decisions []string
		want      string
	}{
		{[]string{"a: " + zero, "b: " + far, "d: [a, b] < a b"}, "A=error 4 B=error 17 D=error 4"}, {[]string{"a: " + zero, "b: " + far, "d: [a, b] < b a"}, "A=error 4 B=error 17 D=error 4"}, {[]string{"b: " + far, "a: " + zero, "d: [a, b] < a b"}, "B=error 17 A=error 4 D=error 17"}, {[]string{"d: [a, b] < b a", "a: " + zero, "b: " + far}, "A=error 4 B=error 17 D=error 4"},
		// The plan isn't the order of the model: a stands ahead of c, and comes behind it.
		{[]string{"a: " + far + " < b", "c: " + zero, "b: 1", "d: [a, c] < a c"}, "C=error 4 B=1 A=error 17 D=error 4"}, {[]string{"a: " + far + " < b", "b: 1", "c: " + zero, "d: [a, c] < c a"}, "B=1 A=error 17 C=error 4 D=error 17"}, {[]string{"d: [a, c] < c a", "a: " + far + " < b", "b: 1", "c: " + zero}, "B=1 A=error 17 C=error 4 D=error 17"},
		// An error goes through all that needs it, and through nothing else.
		{[]string{"a: " + zero, "b: 1 < a", "c: 2 < b", "d: 3", "e: 4 < d"}, "A=error 4 B=error 4 C=error 4 D=3 E=4"}, {[]string{"a: 1", "b: a / 0 < a", "c: a + 1 < a", "d: [b, c] < c b", "e: [c] < c"}, "A=1 B=error 4 C=2 D=error 4 E=[2]"},
		// What is needed indirectly, ahead of what is needed directly, and the other way round.
		{[]string{"a: " + zero, "b: 1 < a", "c: " + far, "d: [b, c] < c b"}, "A=error 4 B=error 4 C=error 17 D=error 4"}, {[]string{"c: " + far, "a: " + zero, "b: 1 < a", "d: [b, c] < b c"}, "C=error 17 A=error 4 B=error 4 D=error 17"},
		// An error of one's own comes last.
		{[]string{"a: " + zero, "d: " + far + " < a"}, "A=error 4 D=error 4"}, {[]string{"a: 1", "d: " + far + " < a"}, "A=1 D=error 17"},
	} {
		holdAll(t, web("", c.decisions...), "{}", c.want)
	}
}

// P19.2: what a decision needs must be a context that is neither too long nor too deep.
func TestNeeds(t *testing.T) {
	zeros := func(n int) string { return "[" + strings.TrimSuffix(strings.Repeat("0, ", n), ", ") + "]" }
	for _, c := range []struct {
		x, y int // elements of lists
		want string
	}{
		{499, 10, "error 6"}, {498, 10, "1"}, {497, 10, "1"}, {499, 498, "error 6"}, {10, 980, "1"},
	} {
		m := web("x; y", "a: x < x", "b: x < x", "c: 1 < a b", "d: 1 < a y", "e: [c] < c", "f: 1 < a")
		long := "1"
		if c.x+c.y+3 > 1000 {
			long = "error 6"
		}
		last := "[" + c.want + "]"
		if c.want != "1" {
			last = c.want
		}
		list := zeros(c.x)
		holdAll(t, m, fmt.Sprintf("{x: %s, y: %s}", list, zeros(c.y)), fmt.Sprintf("A=%s B=%s C=%s D=%s E=%s F=1", list, list, c.want, long, last))
	}
	nest := func(n int) string { return strings.Repeat("[", n) + strings.Repeat("]", n) }
	m := web("x", "a: [x] < x", "b: 1 < a", "c: a < a", "d: 1 < x", "e: 1 < b")
	holdAll(t, m, "{x: "+nest(14)+"}", "A="+nest(15)+" B=1 C="+nest(15)+" D=1 E=1")
	holdAll(t, m, "{x: "+nest(15)+"}", "A="+nest(16)+" B=error 7 C=error 7 D=1 E=error 7")
	// That holds where there is nothing to evaluate, too.
	m = web("x", "a: x < x", "b: x < x")
	bare := table(api.CollectNum, "", "o", "")
	bare.Id, bare.Name, bare.Needs = "C", "c", []string{"A", "B"}
	m.Decisions = append(m.Decisions, bare)
	holdAll(t, m, "{x: "+zeros(499)+"}", "A="+zeros(499)+" B="+zeros(499)+" C=error 6")
	holdAll(t, m, "{x: "+zeros(498)+"}", "A="+zeros(498)+" B="+zeros(498)+" C=0")
	// An error of what is needed comes ahead of that.
	holdAll(t, web("x", "a: [x] < x", "z: "+zero, "b: 1 < a z"), "{x: "+nest(15)+"}", "A="+nest(16)+" Z=error 4 B=error 4")
}

// P19.2: decisions by tables, of which one needs the other, and their types.
func TestTables(t *testing.T) {
	m := web("age; member: boolean", "price: if member then 80 else 100 < member")
	group := table(api.First, "number: age", "tier: group", `"b"`, `< 18 => "a"`, `>= 65 => "a"`)
	group.Id, group.Name, group.Item, group.Needs = "G", "group", "tier", []string{"AGE"}
	rate := table(api.CollectSum, "tier: group; low: price / 10", "number: rate", "0", `"a"; - => 5`, `-; < 9 => price`, "-; - => 0.5")
	rate.Id, rate.Name, rate.Item, rate.Needs = "R", "rate", "low", []string{"PRICE", "G"}
	m.Decisions = append([]api.Decision{rate}, append(m.Decisions, group)...)
	for _, c := range []struct{ inputs, want string }{
		{"{age: 10, member: true}", `PRICE=80 G="a" R=85.5`}, {"{age: 30, member: true}", `PRICE=80 G="b" R=80.5`}, {"{age: 30}", `PRICE=100 G="b" R=error 16`}, {`{age: "x", member: true}`, "PRICE=80 G=error 16 R=error 16"}, {"{member: true}", `PRICE=80 G="b" R=80.5`}, {"{age: 10, member: 1}", `PRICE=error 16 G="a" R=error 16`},
	} {
		holdAll(t, m, c.inputs, c.want)
	}
	if got := listed(Matches(m, "R", read(`{group: "a", price: 80}`))); got != "[0 1 2]" {
		t.Error(got)
	}
	// Local takes the names as they are, whatever their types.
	for names, want := range map[string]string{`{group: "c", price: 80}`: "error 16", `{group: "b", price: "x"}`: "0.5", `{price: 80}`: "80.5", "{}": "0.5", `{group: 1}`: "error 16"} {
		if got := answer(Local(m, "R", read(names))); got != want {
			t.Errorf("Local with %s: %s, want %s", names, got, want)
		}
	}
}

// P1, P19.2: as many inputs and decisions as there may be, each of which needs those ahead of it.
func TestMost(t *testing.T) {
	m, inputs, want := api.Model{Id: "m"}, api.Value{Kind: api.Ctx}, ""
	for i := range 40 {
		x, d := fmt.Sprint("x", i), fmt.Sprint("d", i)
		m.Inputs = append(m.Inputs, api.Input{Id: x, Name: x})
		inputs.Names, inputs.List = append(inputs.Names, x), append(inputs.List, read(fmt.Sprint(i)))
		text, needs := x, []string{x}
		if i > 0 {
			text, needs = text+" + d"+fmt.Sprint(i-1), append(needs, fmt.Sprint("d", i-1))
		}
		for k := i - 2; k >= max(0, i-9); k-- {
			needs = append(needs, fmt.Sprint("d", k))
		}
		m.Decisions = append(m.Decisions, api.Decision{Id: d, Name: d, Text: text, Needs: needs})
		want += fmt.Sprintf(" d%d=%d", i, i*(i+1)/2)
	}
	slices.Reverse(m.Decisions)
	if got := outcomes(All(m, inputs)); " "+got != want {
		t.Errorf("%s, want %s", got, want)
	}
	if got := answer(Eval(m, "d39", inputs)); got != "780" {
		t.Error(got)
	}
	inputs.List[0] = read(`"x"`)
	for _, e := range hold(t, m, inputs) {
		if e != api.OK {
			t.Error(e)
		}
	}
}
