package hit

import (
	"math/big"
	"regexp"
	"slices"
	"strings"
	"testing"

	"tariff/api"
	"tariff/dec"
	"tariff/value"
)

// read is the value of a text.
func read(s string) api.Value {
	v, e := value.Read(s)
	if e != api.OK {
		panic(s)
	}
	return v
}

// row is the values of some texts.
func row(texts ...string) []api.Value {
	var list []api.Value
	for _, s := range texts {
		list = append(list, read(s))
	}
	return list
}

// rows is rows of one value each.
func rows(texts ...string) [][]api.Value {
	var list [][]api.Value
	for _, s := range texts {
		list = append(list, row(s))
	}
	return list
}

// print is the text of a value in form.
func print(v api.Value) string {
	s, _ := value.Print(v)
	return s
}

// printed is the texts of rows, or of lists of order.
func printed(list [][]api.Value) [][]string {
	out := make([][]string, len(list))
	for i, l := range list {
		for _, v := range l {
			out[i] = append(out[i], print(v))
		}
	}
	return out
}

var nameForm = regexp.MustCompile(`^[A-Za-z_][A-Za-z_0-9]{0,63}$`)

// wantLists tells whether there are at most 8 lists of order and 60 rows, and the values are in form.
func wantLists(order, rows [][]api.Value) bool {
	good := len(order) < 9 && len(rows) < 61
	for _, list := range order {
		good = good && len(list) < 61
	}
	for _, r := range rows {
		good = good && len(r) == len(order)
	}
	for _, list := range slices.Concat(order, rows) {
		for _, v := range list {
			good = good && value.Check(v) == api.OK
		}
	}
	return good
}

// wantForm tells whether all that Decide is handed is in form.
func wantForm(names []string, order, rows [][]api.Value, other []api.Value) bool {
	good := len(names) >= 1 && len(order) == len(names) && (len(other) == 0 || len(other) == len(names)) && wantLists(order, rows)
	count := map[string]int{}
	for _, s := range names {
		count[s]++
		keyword := strings.Contains(" and between else false if in not null or then true ", " "+s+" ")
		good = good && nameForm.MatchString(s) && !keyword && count[s] == 1
	}
	for _, v := range other {
		good = good && value.Check(v) == api.OK
	}
	return good
}

// ahead tells whether the row a of the two has the lesser rank.
func ahead(order [][]string, a, b []string) bool {
	for i, list := range order {
		for _, s := range list {
			switch {
			case a[i] == s && b[i] != s:
				return true
			case b[i] == s && a[i] != s:
				return false
			case a[i] == s:
				goto same
			}
		}
	same:
	}
	return false
}

// wantSort is Sort of what is in form: each row stands behind those that come ahead of it.
func wantSort(order, rows [][]string) []int {
	places := make([]int, len(rows))
	for i, r := range rows {
		at := 0
		for k, s := range rows {
			if ahead(order, s, r) || k < i && !ahead(order, r, s) {
				at++
			}
		}
		places[at] = i
	}
	return places
}

// rat is the number of a text; nil if it is none.
func rat(s string) *big.Rat {
	if d, e := dec.Parse(s); e != api.OK || s == "" || d.Neg && d.Coef == (api.Wide{}) {
		return nil
	}
	r, _ := new(big.Rat).SetString(s)
	return r
}

// wantFold is the text of what the policies 8 to 10 make of the texts of values.
func wantFold(policy int, list []string) (string, api.Errno) {
	best := list[0]
	for _, s := range list {
		if rat(s) == nil {
			return "null", api.OK
		}
	}
	for _, s := range list[1:] {
		side := rat(s).Cmp(rat(best))
		switch {
		case policy == 8:
			a, _ := dec.Parse(best)
			b, _ := dec.Parse(s)
			sum, e := dec.Add(a, b)
			if e != api.OK {
				return "", e
			}
			best, _ = dec.Print(sum)
		case policy == 9 && side < 0, policy == 10 && side > 0:
			best = s
		}
	}
	return best, api.OK
}

// wantDecide is the text of what Decide answers.
func wantDecide(policy int, names []string, order, rows [][]api.Value, other []api.Value) (string, api.Errno) {
	if policy < 1 || policy > 11 {
		return "", api.ErrArg
	}
	if !wantForm(names, order, rows, other) || policy > 7 && len(names) != 1 {
		return "", api.ErrForm
	}
	lines := printed(rows)
	if len(rows) == 0 && len(other) > 0 {
		lines = printed([][]api.Value{other})
	}
	sorted := wantSort(printed(order), lines)
	var wholes, ranked []string // the texts of the rows' values, and by rank
	for _, line := range lines {
		s := line[0]
		if len(names) > 1 {
			s = "{"
			for i, name := range names {
				s += strings.Repeat(", ", min(i, 1)) + name + ": " + line[i]
			}
			s += "}"
		}
		wholes = append(wholes, s)
	}
	for _, at := range sorted {
		ranked = append(ranked, wholes[at])
	}
	n := len(wholes)
	switch {
	case policy == 5 || policy == 7:
		return "[" + strings.Join(wholes, ", ") + "]", api.OK
	case policy == 6:
		return "[" + strings.Join(ranked, ", ") + "]", api.OK
	case policy == 11:
		return print(api.Value{Kind: api.Num, Num: api.Dec{Coef: api.Wide{Lo: uint64(n)}}}), api.OK
	case n == 0:
		return "null", api.OK
	case policy >= 8:
		return wantFold(policy, wholes)
	case policy == 1 && n > 1:
		return "", api.ErrUnique
	case policy == 2 && len(slices.Compact(slices.Clone(wholes))) > 1:
		return "", api.ErrAny
	case policy == 3:
		return ranked[0], api.OK
	}
	return wholes[0], api.OK
}

// parts is how many parts a value of that text has, and its depth.
func parts(s string) (int, int) {
	s = regexp.MustCompile(`"(\\.|[^"\\])*"`).ReplaceAllString(s, "0")
	s = regexp.MustCompile(`(\[|\{)(\]|\})`).ReplaceAllString(s, "0") // empty, and so without parts
	n, depth, most := 1+strings.Count(s, ",")+strings.Count(s, "[")+strings.Count(s, "{"), 1, 1
	for _, r := range s {
		switch r {
		case '[', '{':
			depth++
			most = max(most, depth)
		case ']', '}':
			depth--
		}
	}
	return n, most
}

// hold holds Decide and Sort against what they should answer, and tells Decide's error.
func hold(t *testing.T, policy int, names []string, order, rows [][]api.Value, other []api.Value) api.Errno {
	t.Helper()
	want, wantE := wantDecide(policy, names, order, rows, other)
	if wantE == api.OK {
		switch n, depth := parts(want); {
		case n > 1000:
			want, wantE = "", api.ErrLong
		case depth > 16:
			want, wantE = "", api.ErrDeep
		}
	}
	v, e := Decide(policy, names, order, rows, other)
	if e != wantE || e == api.OK && print(v) != want || e != api.OK && !value.Same(v, api.Value{}) {
		t.Errorf("Decide(%d, %q, %s, %s, %s): %s %v, want %s %v", policy, names, printed(order), printed(rows), printed([][]api.Value{other}), print(v), e, want, wantE)
	}
	list, sortE := Sort(order, rows)
	if !wantLists(order, rows) {
		if sortE != api.ErrForm || len(list) > 0 {
			t.Errorf("Sort(%s, %s): %v %v", printed(order), printed(rows), list, sortE)
		}
	} else if w := wantSort(printed(order), printed(rows)); sortE != api.OK || !slices.Equal(list, w) {
		t.Errorf("Sort(%s, %s): %v %v, want %v", printed(order), printed(rows), list, sortE, w)
	}
	return e
}

// source makes numbers, the same ones in every test run.
type source struct{ state uint64 }

func (s *source) below(n int) int {
	s.state = s.state*6364136223846793005 + 1442695040888963407
	x := s.state
	x ^= x >> 33
	x *= 0xff51afd7ed558ccd
	return int((x ^ x>>29) >> 1 % uint64(n))
}

// values is up to n random values, of a few texts.
func (s *source) values(n int, texts []string) []api.Value {
	var list []api.Value
	for range n {
		list = append(list, read(texts[s.below(len(texts))]))
	}
	return list
}
