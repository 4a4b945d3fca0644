package kind

import (
	"math"
	"reflect"
	"strings"
	"testing"

	"tariff/api"
	"tariff/value"
)

// named are all types with their names.
func named() map[string]api.Type {
	return map[string]api.Type{
		"any": {}, "boolean": {Kind: 1}, "number": {Kind: 2}, "string": {Kind: 3}, "date": {Kind: 4},
		"list<any>": {Kind: 5}, "list<boolean>": {Kind: 5, Of: 1}, "list<number>": {Kind: 5, Of: 2}, "list<string>": {Kind: 5, Of: 3}, "list<date>": {Kind: 5, Of: 4},
	}
}

// wrong are types that are not in form.
func wrong() []api.Type {
	var l []api.Type
	for kind := -2; kind <= 8; kind++ {
		for of := -2; of <= 8; of++ {
			if kind < 0 || kind > 5 || of < 0 || of > 4 || kind != 5 && of != 0 {
				l = append(l, api.Type{Kind: kind, Of: of})
			}
		}
	}
	for _, far := range []int{math.MinInt, math.MaxInt, 1 << 32, 1<<32 + 5, 1<<8 + 5, -5} {
		l = append(l, api.Type{Kind: far}, api.Type{Kind: 5, Of: far}, api.Type{Kind: far, Of: far}, api.Type{Kind: 2, Of: far})
	}
	return l
}

// samples are values of each kind, and lists of each two of them.
func samples(t *testing.T) []api.Value {
	t.Helper()
	words := []string{"null", "true", "false", "0", "-1.5", `""`, `"x"`, `@"2024-02-29"`, "[]", "[null]", "[1]", `["x"]`, "[[]]", "{}", "{a: 1}", "{a: [1], b: null}"}
	texts := append([]string{}, words...)
	for _, a := range words {
		texts = append(texts, "["+a+"]", "[null, "+a+", null]", "[["+a+"]]", "{a: "+a+"}")
		for _, b := range words {
			texts = append(texts, "["+a+", "+b+"]", "["+a+", null, "+a+", "+b+"]")
		}
	}
	var l []api.Value
	for _, s := range texts {
		v, e := value.Read(s)
		if e != api.OK {
			t.Fatal(s, e)
		}
		l = append(l, v)
	}
	return l
}

// wantFits is Fits of a value and a type in form.
func wantFits(v api.Value, name string) bool {
	of, isList := strings.CutPrefix(strings.TrimSuffix(name, ">"), "list<")
	if v.Kind == 0 || name == "any" {
		return true
	}
	if !isList {
		return v.Kind == map[string]int{"boolean": 1, "number": 2, "string": 3, "date": 4}[name]
	}
	for _, item := range v.List {
		if !wantFits(item, of) {
			return false
		}
	}
	return v.Kind == 5
}

// wantOf is the name of the type of a value in form.
func wantOf(v api.Value) string {
	switch v.Kind {
	case 1, 2, 3, 4:
		return []string{"boolean", "number", "string", "date"}[v.Kind-1]
	case 5:
		kinds := map[string]bool{}
		for _, item := range v.List {
			if item.Kind != 0 {
				kinds[wantOf(item)] = true
			}
		}
		for name := range kinds {
			if len(kinds) == 1 && !strings.HasPrefix(name, "list") {
				return "list<" + name + ">"
			}
		}
		return "list<any>"
	}
	return "any"
}

// P8.1: the ten types with their names, and nothing else.
func TestNames(t *testing.T) {
	for s, k := range named() {
		if !Form(k) {
			t.Error("Form", s)
		}
		if name, e := Name(k); name != s || e != api.OK {
			t.Error("Name", s, name, e)
		}
		if got, e := Parse(s); got != k || e != api.OK {
			t.Error("Parse", s, got, e)
		}
	}
	for _, k := range wrong() {
		if Form(k) {
			t.Error("Form", k)
		}
		if name, e := Name(k); name != "" || e != api.ErrForm {
			t.Error("Name", k, name, e)
		}
	}
	list := []string{"", "text", "null", "context", "list", "list<", "list<>", "list<list>", "list<list<any>>", "list<text>", "list<context>", "list <number>", "list< number>", "\xff", "\x00", strings.Repeat("a", 1<<20)}
	for s := range named() {
		list = append(list, s+" ", " "+s, s+"\x00", strings.ToUpper(s), strings.ToUpper(s[:1])+s[1:], s[1:], s[:len(s)-1], s+">", s+s, "list<"+s+">>")
	}
	for _, s := range list {
		if got, e := Parse(s); got != (api.Type{}) || e != api.ErrName {
			t.Errorf("Parse(%.20q): %v %v", s, got, e)
		}
	}
}

// P8.2: Of and Fits of every sample; every value fits its type.
func TestOfAndFits(t *testing.T) {
	count := map[string]int{}
	for _, v := range samples(t) {
		text, _ := value.Print(v)
		own, e := Of(v)
		if name, _ := Name(own); name != wantOf(v) || e != api.OK {
			t.Errorf("Of(%s): %v %v, want %s", text, own, e, wantOf(v))
		}
		count[wantOf(v)]++
		if ok, e := Fits(v, own); !ok || e != api.OK {
			t.Errorf("%s does not fit its type: %v", text, e)
		}
		for name, k := range named() {
			if ok, e := Fits(v, k); ok != wantFits(v, name) || e != api.OK {
				t.Errorf("Fits(%s, %s): %v %v", text, name, ok, e)
			}
		}
		for _, k := range wrong() {
			if ok, e := Fits(v, k); ok || e != api.ErrForm {
				t.Errorf("Fits(%s, %v): %v %v", text, k, ok, e)
			}
		}
	}
	if len(count) != 10 {
		t.Error(count)
	}
}

// P8.2: the chapter's examples, and the edges of lists.
func TestOfExamples(t *testing.T) {
	for s, want := range map[string]string{
		"[1, null, 2]": "list<number>", "[]": "list<any>", `[1, "x"]`: "list<any>", "{a: 1}": "any", "null": "any", "{}": "any", "[null]": "list<any>", "[[1]]": "list<any>", "[{}]": "list<any>", "[{}, {}]": "list<any>", "[null, true]": "list<boolean>", `[@"2024-01-01"]`: "list<date>", `["", null]`: "list<string>",
		"[1, []]": "list<any>", "[[], 1]": "list<any>", "[1, {}, 1]": "list<any>", "[1, true, 1]": "list<any>", "[1, 1, true]": "list<any>", "1": "number", "true": "boolean", `""`: "string", `@"2024-01-01"`: "date",
	} {
		v, _ := value.Read(s)
		k, e := Of(v)
		if name, _ := Name(k); name != want || e != api.OK {
			t.Errorf("Of(%s): %s %v, want %s", s, name, e, want)
		}
	}
	for _, c := range []struct {
		s, name string
		want    bool
	}{
		{`[1, "x"]`, "list<number>", false}, {"null", "number", true}, {"[[1]]", "list<any>", true}, {"[[1]]", "list<number>", false}, {"[]", "list<date>", true}, {"[null, null]", "list<boolean>", true}, {"{}", "list<any>", false}, {"{a: 1}", "list<number>", false}, {"{a: 1}", "any", true},
		{"1", "list<number>", false}, {"[1]", "number", false}, {"[{}]", "list<any>", true}, {"[1, null]", "list<number>", true}, {"null", "list<number>", true}, {`[1, 2, "x"]`, "list<number>", false}, {`["x", 1]`, "list<number>", false}, {"true", "number", false},
	} {
		v, _ := value.Read(c.s)
		if ok, e := Fits(v, named()[c.name]); ok != c.want || e != api.OK {
			t.Errorf("Fits(%s, %s): %v %v", c.s, c.name, ok, e)
		}
	}
}

// P1, P8.2: the errors of the value come before that of the type.
func TestValueErrors(t *testing.T) {
	deep := api.Value{}
	for range 16 {
		deep = api.Value{Kind: api.List, List: []api.Value{deep}}
	}
	own := api.Value{Kind: api.List, List: make([]api.Value, 1)}
	own.List[0] = own
	for _, c := range []struct {
		v    api.Value
		want api.Errno
	}{
		{api.Value{Kind: api.List, List: make([]api.Value, 1000)}, api.ErrLong}, {own, api.ErrLong}, {deep, api.ErrDeep}, {api.Value{Kind: 7}, api.ErrForm}, {api.Value{Yes: true}, api.ErrForm}, {api.Value{Kind: api.List, List: []api.Value{{Kind: api.Date}}}, api.ErrForm},
	} {
		if e := value.Check(c.v); e != c.want {
			t.Error(e, c.want)
		}
		if k, e := Of(c.v); k != (api.Type{}) || e != c.want {
			t.Error("Of", k, e, c.want)
		}
		for _, k := range append(wrong(), api.Type{}, api.Type{Kind: 5}, api.Type{Kind: 2}) {
			if ok, e := Fits(c.v, k); ok || e != c.want {
				t.Error("Fits", k, ok, e, c.want)
			}
		}
	}
}

// P8.3: Under of all pairs, held against the values that fit.
func TestUnder(t *testing.T) {
	l := samples(t)
	for s, a := range named() {
		for r, b := range named() {
			want := true
			for _, v := range l {
				want = want && (!wantFits(v, s) || wantFits(v, r))
			}
			if ok, e := Under(a, b); ok != want || e != api.OK {
				t.Errorf("Under(%s, %s): %v %v", s, r, ok, e)
			}
		}
	}
}

// P8.3: Join of all pairs, held against all types that are above both.
func TestJoin(t *testing.T) {
	under := func(a, b api.Type) bool {
		ok, e := Under(a, b)
		return ok && e == api.OK
	}
	for s, a := range named() {
		for r, b := range named() {
			var above, least []api.Type
			for _, c := range named() {
				if under(a, c) && under(b, c) {
					above = append(above, c)
				}
			}
			for _, c := range above {
				all := true
				for _, d := range above {
					all = all && under(c, d)
				}
				if all {
					least = append(least, c)
				}
			}
			if got, e := Join(a, b); len(least) != 1 || got != least[0] || e != api.OK {
				t.Errorf("Join(%s, %s): %v %v, want %v", s, r, got, e, least)
			}
		}
	}
}

// P8.3: the chapter's examples.
func TestUnderAndJoinExamples(t *testing.T) {
	for _, c := range []struct {
		a, b  api.Type
		under bool
		join  api.Type
	}{
		{api.Type{Kind: 5, Of: 2}, api.Type{Kind: 5}, true, api.Type{Kind: 5}}, {api.Type{}, api.Type{Kind: 2}, false, api.Type{}}, {api.Type{Kind: 5, Of: 2}, api.Type{Kind: 5, Of: 3}, false, api.Type{Kind: 5}}, {api.Type{Kind: 2}, api.Type{Kind: 3}, false, api.Type{}},
		{api.Type{Kind: 5, Of: 1}, api.Type{Kind: 1}, false, api.Type{}}, {api.Type{Kind: 5}, api.Type{Kind: 5, Of: 2}, false, api.Type{Kind: 5}}, {api.Type{}, api.Type{}, true, api.Type{}}, {api.Type{Kind: 4}, api.Type{Kind: 4}, true, api.Type{Kind: 4}}, {api.Type{Kind: 5}, api.Type{}, true, api.Type{}},
	} {
		if ok, e := Under(c.a, c.b); ok != c.under || e != api.OK {
			t.Error("Under", c.a, c.b, ok, e)
		}
		if got, e := Join(c.a, c.b); got != c.join || e != api.OK {
			t.Error("Join", c.a, c.b, got, e)
		}
	}
}

// P1, P8.3: a type that is not in form, in whichever place.
func TestTypeErrors(t *testing.T) {
	others := wrong()
	for _, k := range named() {
		others = append(others, k)
	}
	for _, a := range wrong() {
		for _, b := range others {
			for _, pair := range [][2]api.Type{{a, b}, {b, a}} {
				if ok, e := Under(pair[0], pair[1]); ok || e != api.ErrForm {
					t.Error("Under", pair, ok, e)
				}
				if k, e := Join(pair[0], pair[1]); k != (api.Type{}) || e != api.ErrForm {
					t.Error("Join", pair, k, e)
				}
			}
		}
	}
}

// P8.2: the value that is asked about stays what it was, with what is behind its end.
func TestArgumentsStay(t *testing.T) {
	items := []api.Value{{Kind: api.Bool, Yes: true}, {}, {Kind: api.Text, Text: "spare"}}
	v := api.Value{Kind: api.List, List: items[:2]}
	Of(v)
	for _, k := range named() {
		Fits(v, k)
	}
	if !reflect.DeepEqual(items, []api.Value{{Kind: api.Bool, Yes: true}, {}, {Kind: api.Text, Text: "spare"}}) {
		t.Error(items)
	}
}
