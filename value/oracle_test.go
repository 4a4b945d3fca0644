package value

import (
	"math/big"
	"reflect"
	"regexp"
	"strings"
	"testing"
	"time"

	"tariff/api"
)

// What the chapter says, worked out by levels, by the library's deep comparison, and by patterns.

// The values of three-valued logic.
var null, yes, no = api.Value{}, api.Value{Kind: api.Bool, Yes: true}, api.Value{Kind: api.Bool}

func list(items ...api.Value) api.Value {
	return api.Value{Kind: api.List, List: items}
}

func text(s string) api.Value {
	return api.Value{Kind: api.Text, Text: s}
}

func day(n int) api.Value {
	return api.Value{Kind: api.Date, Day: n}
}

// num is n / 10^scale, which must be in form.
func num(n int64, scale int) api.Value {
	neg := n < 0
	if neg {
		n = -n
	}
	return api.Value{Kind: api.Num, Num: api.Dec{Neg: neg, Coef: api.Wide{Lo: uint64(n)}, Scale: scale}}
}

// ctx is the context with these names, separated by blanks.
func ctx(names string, items ...api.Value) api.Value {
	return api.Value{Kind: api.Ctx, Names: strings.Fields(names), List: items}
}

// nested is a value within so many lists.
func nested(v api.Value, n int) api.Value {
	for range n {
		v = list(v)
	}
	return v
}

// copied is a value with memory of its own, and without empty slices.
func copied(v api.Value) api.Value {
	v.Names = append([]string(nil), v.Names...)
	items := v.List
	v.List = nil
	for _, w := range items {
		v.List = append(v.List, copied(w))
	}
	return v
}

// wantCheck is Check: the parts are gone through level by level.
func wantCheck(v api.Value) api.Errno {
	parts, depth := 0, 0
	ok := true
	for level := []api.Value{v}; len(level) > 0; depth++ {
		var below []api.Value
		for _, w := range level {
			parts++
			if parts+len(below)+len(w.List) > 1001 {
				return api.ErrLong
			}
			ok = ok && wantForm(w)
			below = append(below, w.List...)
		}
		level = below
	}
	switch {
	case parts > 1000:
		return api.ErrLong
	case depth > 16:
		return api.ErrDeep
	case !ok:
		return api.ErrForm
	}
	return api.OK
}

// wantForm tells whether a value is in form, but for the values in its list.
func wantForm(v api.Value) bool {
	used := api.Value{Kind: v.Kind}
	ok := v.Kind == 5 || v.Kind == 6 || len(v.List) == 0
	switch v.Kind {
	case 0, 5:
	case 1:
		used.Yes = v.Yes
	case 2:
		used.Num = v.Num
		ok = ok && wantDec(v.Num)
	case 3:
		used.Text = v.Text
		ok = ok && len(v.Text) <= 1000 && wantText(v.Text)
	case 4:
		used.Day = v.Day
		ok = ok && v.Day >= 1 && v.Day <= 3652059
	case 6:
		used.Names = v.Names
		seen := map[string]bool{}
		for _, name := range v.Names {
			ok = ok && wantName(name)
			seen[name] = true
		}
		ok = ok && len(v.Names) == len(v.List) && len(seen) == len(v.List)
	default:
		return false
	}
	v.List = nil
	return ok && reflect.DeepEqual(copied(v), copied(used))
}

// wantDec tells whether a decimal is in form.
func wantDec(d api.Dec) bool {
	n := new(big.Int).SetUint64(d.Coef.Hi)
	n.Or(n.Lsh(n, 64), new(big.Int).SetUint64(d.Coef.Lo))
	digits := n.String()
	switch {
	case len(digits) > 34 || d.Scale < 0 || d.Scale > 18:
		return false
	case d.Scale > 0:
		return !strings.HasSuffix(digits, "0")
	}
	return !d.Neg || digits != "0"
}

// wantText tells whether a string is a text.
func wantText(s string) bool {
	return texts.MatchString(s) && strings.ToValidUTF8(s, "") == s
}

// texts are strings of the characters that a text may have; what is no UTF-8 looks like one of them.
var texts = regexp.MustCompile(`^[\x09\x0a\x0d\x20-\x{d7ff}\x{e000}-\x{fffd}\x{10000}-\x{10ffff}]*$`)

// wantName tells whether a string is a name.
func wantName(s string) bool {
	switch s {
	case "and", "between", "else", "false", "if", "in", "not", "null", "or", "then", "true":
		return false
	}
	return len(s) <= 64 && names.MatchString(s)
}

// names are strings that look like names.
var names = regexp.MustCompile(`\A[A-Za-z_][A-Za-z0-9_]*\z`)

// rational is the number of a decimal.
func rational(d api.Dec) *big.Rat {
	n := new(big.Int).SetUint64(d.Coef.Hi)
	n.Or(n.Lsh(n, 64), new(big.Int).SetUint64(d.Coef.Lo))
	if d.Neg {
		n.Neg(n)
	}
	return new(big.Rat).SetFrac(n, new(big.Int).Exp(big.NewInt(10), big.NewInt(int64(d.Scale)), nil))
}

// worst is false if that is among the verdicts, else null if that is, else true.
func worst(l []api.Value) api.Value {
	worst := yes
	for _, v := range l {
		if v.Kind == 1 && !v.Yes {
			return no
		}
		if v.Kind == 0 {
			worst = null
		}
	}
	return worst
}

// wantEqual is Equal of values in form.
func wantEqual(a, b api.Value) api.Value {
	if a.Kind != b.Kind {
		if a.Kind == 0 || b.Kind == 0 {
			return no
		}
		return null
	}
	var verdicts []api.Value
	switch a.Kind {
	case 5:
		if len(a.List) != len(b.List) {
			return no
		}
		for i := range a.List {
			verdicts = append(verdicts, wantEqual(a.List[i], b.List[i]))
		}
		return worst(verdicts)
	case 6:
		for i, v := range a.List {
			verdicts = append(verdicts, no)
			for k, w := range b.List {
				if a.Names[i] == b.Names[k] {
					verdicts[i] = wantEqual(v, w)
				}
			}
		}
		for _, name := range b.Names {
			if !strings.Contains(" "+strings.Join(a.Names, " ")+" ", " "+name+" ") {
				return no
			}
		}
		return worst(verdicts)
	}
	if reflect.DeepEqual(copied(a), copied(b)) {
		return yes
	}
	return no
}

// wantLess is Less of values in form.
func wantLess(a, b api.Value) api.Value {
	less := false
	switch {
	case a.Kind == 2 && b.Kind == 2:
		less = rational(a.Num).Cmp(rational(b.Num)) < 0
	case a.Kind == 3 && b.Kind == 3:
		less = strings.Compare(a.Text, b.Text) < 0
	case a.Kind == 4 && b.Kind == 4:
		less = a.Day < b.Day
	default:
		return null
	}
	return api.Value{Kind: 1, Yes: less}
}

// three is what a value counts as: 0 for false, 2 for true, 1 for everything else.
func three(v api.Value) int {
	if v.Kind != 1 {
		return 1
	}
	if v.Yes {
		return 2
	}
	return 0
}

// ofThree is the value that counts so.
func ofThree(n int) api.Value {
	return []api.Value{no, null, yes}[n]
}

// wantPrint is Print of a value in form.
func wantPrint(v api.Value) string {
	var items []string
	for i, w := range v.List {
		s := wantPrint(w)
		if v.Kind == 6 {
			s = v.Names[i] + ": " + s
		}
		items = append(items, s)
	}
	switch v.Kind {
	case 1:
		if v.Yes {
			return "true"
		}
		return "false"
	case 2:
		return rational(v.Num).FloatString(v.Num.Scale)
	case 3:
		return `"` + strings.NewReplacer(`"`, `\"`, `\`, `\\`, "\n", `\n`, "\r", `\r`, "\t", `\t`).Replace(v.Text) + `"`
	case 4:
		return `@"` + time.Date(1, 1, v.Day, 0, 0, 0, 0, time.UTC).Format("2006-01-02") + `"`
	case 5:
		return "[" + strings.Join(items, ", ") + "]"
	case 6:
		return "{" + strings.Join(items, ", ") + "}"
	}
	return "null"
}

// piece is what a text form consists of: a name, a value without parts, a bracket, a comma.
var piece = regexp.MustCompile(`^(?:([A-Za-z_][A-Za-z0-9_]*): |(null|true|false|-?(?:0|[1-9][0-9]*)(?:\.[0-9]*[1-9])?|@?"(?:[^"\\\n\r\t]|\\["\\nrt])*")|([\[\]{}])|(, ))`)

// wantRead tells whether there is a value in form that is printed as s: the pieces are put on a
// pile, on which what a bracket closes becomes a value.
func wantRead(s string) bool {
	if !wantText(s) {
		return false
	}
	pile := ""
	parts, depth := 0, 0
	var open []map[string]bool // the names in what is open
	for s != "" {
		m := piece.FindStringSubmatch(s)
		if m == nil {
			return false
		}
		s = s[len(m[0]):]
		name, leaf, bracket := m[1], m[2], m[3]
		if leaf != "" || bracket == "[" || bracket == "{" {
			parts++
			depth = max(depth, len(open)+1)
		}
		switch {
		case name != "":
			if len(open) == 0 || open[len(open)-1][name] || !wantName(name) {
				return false
			}
			open[len(open)-1][name] = true
			pile += ":"
		case leaf != "":
			if !wantLeaf(leaf) {
				return false
			}
			pile += "v"
		case bracket == "[" || bracket == "{":
			pile += bracket
			open = append(open, map[string]bool{})
		case bracket != "":
			at := strings.LastIndexAny(pile, "[{")
			if at < 0 || !closes[bracket].MatchString(pile[at:]) {
				return false
			}
			pile = pile[:at] + "v"
			open = open[:len(open)-1]
		default:
			pile += ","
		}
	}
	return pile == "v" && parts <= 1000 && depth <= 16
}

// closes is what must be on the pile ahead of a bracket that closes.
var closes = map[string]*regexp.Regexp{"]": regexp.MustCompile(`^\[(v(,v)*)?$`), "}": regexp.MustCompile(`^\{(:v(,:v)*)?$`)}

// wantLeaf tells whether what looks like a value without parts is one.
func wantLeaf(s string) bool {
	switch {
	case strings.HasPrefix(s, `@`):
		_, err := time.Parse("2006-01-02", strings.Trim(s, `@"`))
		return err == nil && len(s) == 13 && !strings.HasPrefix(s, `@"0000`)
	case strings.HasPrefix(s, `"`):
		return len(strings.NewReplacer(`\"`, `"`, `\\`, `\`, `\n`, "n", `\r`, "r", `\t`, "t").Replace(s)) <= 1002
	case s == "null" || s == "true" || s == "false":
		return true
	}
	whole, fraction, _ := strings.Cut(s, ".")
	digits := strings.TrimLeft(strings.TrimPrefix(whole, "-")+fraction, "0")
	return len(fraction) <= 18 && len(digits) <= 34 && (digits != "" || s == "0")
}

// source makes values, the same ones in every test run.
type source struct{ state uint64 }

// below is a number from 0 to n-1.
func (s *source) below(n int) int {
	s.state = s.state*6364136223846793005 + 1442695040888963407
	x := s.state
	x ^= x >> 33
	x *= 0xff51afd7ed558ccd
	return int((x ^ x>>29) % uint64(n))
}

// value is a value in form, of a few parts, no deeper than asked.
func (s *source) value(depth int) api.Value {
	kinds := 5
	if depth > 1 {
		kinds = 8
	}
	switch s.below(kinds) {
	case 0:
		return null
	case 1:
		return ofThree(2 * s.below(2))
	case 2:
		return num([]int64{0, 1, -1, 12, -7, 9223372036854775807}[s.below(6)], 0)
	case 3:
		return text([]string{"", "a", "ab", "b", "a\"b", "\\", "\n\r\t", "é日\U0001f600", "], [", "null"}[s.below(10)])
	case 4:
		return day([]int{1, 719163, 738945, 3652059}[s.below(4)])
	case 5:
		return num([]int64{15, -5, 1, 999999999999999999}[s.below(4)], []int{1, 18, 3, 5}[s.below(4)])
	}
	v := list()
	for range s.below(4) {
		v.List = append(v.List, s.value(depth-1))
	}
	if s.below(2) == 0 {
		v.Kind = api.Ctx
		at := s.below(6)
		for i := range v.List {
			v.Names = append(v.Names, strings.Fields("a b c a b c _x a2 Null")[(at+i)%9])
		}
		if !wantForm(v) { // a name stands twice
			v.Names = strings.Fields("p q r")[:len(v.List)]
		}
	}
	return v
}

// pool are values of every kind: those that edges are among, those that differ in one place, and some more.
func pool() []api.Value {
	top := api.Dec{Coef: api.Wide{Hi: 542101086242752, Lo: 4003012203950112767}} // 10^34 - 1
	l := []api.Value{null, yes, no, num(0, 0), num(1, 0), num(-1, 0), num(15, 1), num(1, 18), {Kind: api.Num, Num: top}, text(""), text("a"), text("ab"), text("b"), text("\"\\\n\r\t"), text("é"),
		text(strings.Repeat("é", 500)), day(1), day(2), day(3652059), list(), list(null), list(yes), list(no), list(num(1, 0)), list(num(1, 0), num(2, 0)), list(num(1, 0), num(3, 0)), list(num(3, 0), num(2, 0)),
		list(num(1, 0), text("x")), list(num(3, 0), text("x")), list(text("x"), num(3, 0)), list(list()), list(list(), list()), list(list(num(1, 0)), null), list(list(text("x")), null), list(list(null), null), list(ctx("")),
		ctx(""), ctx("a", num(1, 0)), ctx("a", num(2, 0)), ctx("a", null), ctx("a", text("x")), ctx("b", num(1, 0)), ctx("a b", num(1, 0), num(2, 0)), ctx("b a", num(2, 0), num(1, 0)), ctx("b a", num(1, 0), num(2, 0)),
		ctx("a c", num(1, 0), num(2, 0)), ctx("a b", num(1, 0), text("x")), ctx("b a", text("y"), num(2, 0)), ctx("a b", list(num(1, 0)), ctx("a", yes)), ctx("b a", ctx("a", no), list(num(1, 0))), ctx("b a", ctx("a", null), list(text("")))}
	s := &source{state: 71}
	for range 100 {
		l = append(l, s.value(4))
	}
	return l
}

// unformed are values that Check rejects, with its error.
func unformed() map[api.Errno][]api.Value {
	return map[api.Errno][]api.Value{
		api.ErrLong: {{Kind: api.List, List: make([]api.Value, 1000)}, {Kind: 9, List: make([]api.Value, 1000)}},
		api.ErrDeep: {nested(null, 16), nested(api.Value{Kind: -1}, 16)},
		api.ErrForm: {{Kind: 7}, {Yes: true}, {Kind: api.Text, Yes: true}, list(null, day(0)), ctx("a a", null, null)},
	}
}

// holdTo holds an answer against the right one.
func holdTo(t *testing.T, what string, a, b, got api.Value, e api.Errno, want api.Value, wantErr api.Errno) {
	t.Helper()
	if !reflect.DeepEqual(got, want) || e != wantErr {
		t.Errorf("%s(%.200q, %.200q): %v %v, want %v %v", what, wantPrint(a), wantPrint(b), got, e, want, wantErr)
	}
}
