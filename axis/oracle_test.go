package axis

import (
	"fmt"
	"maps"
	"math/big"
	"reflect"
	"slices"
	"strings"
	"testing"

	"tariff/api"
	"tariff/value"
)

// What the chapter says, worked out from where segments begin: with the least value, with each end,
// and with the value behind each end. Numbers are counted in units of 10^-18, dates in days.

// power is 10^n.
func power(n int) *big.Int {
	return new(big.Int).Exp(big.NewInt(10), big.NewInt(int64(n)), nil)
}

// rank is the number of units, or of days.
func rank(v api.Value) *big.Int {
	if v.Kind == api.Date {
		return big.NewInt(int64(v.Day))
	}
	n := new(big.Int).Lsh(new(big.Int).SetUint64(v.Num.Coef.Hi), 64)
	n.Or(n, new(big.Int).SetUint64(v.Num.Coef.Lo))
	if v.Num.Neg {
		n.Neg(n)
	}
	return n.Mul(n, power(18-v.Num.Scale))
}

// ranked is the value of so many units or days; false if there is none.
func ranked(kind int, n *big.Int) (api.Value, bool) {
	if kind == api.Date {
		return day(int(n.Int64())), n.Sign() > 0 && n.Cmp(big.NewInt(3652059)) <= 0
	}
	coef, scale := new(big.Int).Abs(n), 18
	for scale > 0 && new(big.Int).Mod(coef, big.NewInt(10)).Sign() == 0 {
		coef.Div(coef, big.NewInt(10))
		scale--
	}
	d := api.Dec{Neg: n.Sign() < 0, Scale: scale, Coef: api.Wide{Hi: new(big.Int).Rsh(coef, 64).Uint64(), Lo: new(big.Int).And(coef, new(big.Int).SetUint64(1<<64-1)).Uint64()}}
	return api.Value{Kind: api.Num, Num: d}, coef.Cmp(power(34)) < 0
}

// beside is the nearest value above another one (by 1), or below it (by -1).
func beside(v api.Value, by int) (api.Value, bool) {
	if v.Kind == api.Date {
		return ranked(v.Kind, big.NewInt(int64(v.Day+by)))
	}
	var best *big.Int
	for unit := 0; unit <= 18; unit++ {
		// The nearest multiple of the unit on that side.
		q, m := new(big.Int).DivMod(rank(v), power(unit), new(big.Int))
		if by > 0 || m.Sign() == 0 {
			q.Add(q, big.NewInt(int64(by)))
		}
		n := q.Mul(q, power(unit))
		if _, ok := ranked(v.Kind, n); ok && (best == nil || best.Cmp(n) == by) {
			best = n
		}
	}
	if best == nil {
		return api.Value{}, false
	}
	return ranked(v.Kind, best)
}

// first is the least value of numbers or of dates, and last the greatest.
func first(kind int) api.Value {
	v, ok := ranked(kind, big.NewInt(1))
	if kind == api.Num {
		n := new(big.Int).Sub(big.NewInt(1), power(34))
		v, ok = ranked(kind, n.Mul(n, power(18)))
	}
	if !ok {
		panic(kind)
	}
	return v
}

func last(kind int) api.Value {
	if kind == api.Date {
		return day(3652059)
	}
	v := first(kind)
	v.Num.Neg = false
	return v
}

// wantCheck is the error of a kind, of ends and of values.
func wantCheck(kind int, ends []api.Value, values ...api.Value) api.Errno {
	if len(ends) > 200 {
		return api.ErrLong
	}
	all := slices.Concat(ends, values)
	for _, v := range all {
		if e := value.Check(v); e != api.OK {
			return e
		}
	}
	if !slices.Contains([]int{api.Bool, api.Num, api.Text, api.Date}, kind) {
		return api.ErrType
	}
	for _, v := range all {
		if v.Kind != kind {
			return api.ErrType
		}
	}
	return api.OK
}

// wantCut is the segments for ends that are right.
func wantCut(kind int, ends []api.Value) []Seg {
	var segs []Seg
	switch kind {
	case api.Bool:
		return []Seg{{truthOf(false), true}, {truthOf(true), true}}
	case api.Text:
		set := map[string]bool{}
		for _, v := range ends {
			set[v.Text] = true
		}
		other := ""
		for set[other] {
			other += "a"
		}
		for _, s := range slices.Sorted(maps.Keys(set)) {
			segs = append(segs, Seg{text(s), true})
		}
		return append(segs, Seg{text(other), false})
	}
	begins := []*big.Int{rank(first(kind))}
	point := map[string]bool{}
	for _, v := range ends {
		begins = append(begins, rank(v))
		point[rank(v).String()] = true
		if next, ok := beside(v, 1); ok {
			begins = append(begins, rank(next))
		}
	}
	slices.SortFunc(begins, (*big.Int).Cmp)
	for _, n := range slices.CompactFunc(begins, func(a, b *big.Int) bool { return a.Cmp(b) == 0 }) {
		v, _ := ranked(kind, n)
		segs = append(segs, Seg{v, point[n.String()]})
	}
	return segs
}

// wantFind is the segment of a value: what has no segment of its own is in the one that begins last ahead
// of it, or, of texts, in the one of all others.
func wantFind(segs []Seg, v api.Value) int {
	for at := len(segs) - 1; at >= 0; at-- {
		s := segs[at]
		if s.Point && reflect.DeepEqual(s.Value, v) || v.Kind != api.Text && v.Kind != api.Bool && rank(s.Value).Cmp(rank(v)) <= 0 {
			return at
		}
	}
	return len(segs) - 1
}

// hold holds Cut and Find for each value against what is wanted, and tells the error that is wanted of Cut.
func hold(t *testing.T, kind int, ends []api.Value, values ...api.Value) api.Errno {
	t.Helper()
	var want []Seg
	wantErr := wantCheck(kind, ends)
	if wantErr == api.OK {
		want = wantCut(kind, ends)
	}
	got, e := Cut(kind, ends)
	if e != wantErr || len(got) != len(want) || len(got) > 0 && !reflect.DeepEqual(got, want) {
		t.Errorf("Cut(%d, %s): %s %v, want %s %v", kind, brief(ends), brief(got), e, brief(want), wantErr)
	}
	for _, v := range values {
		at, atErr := 0, wantCheck(kind, ends, v)
		if atErr == api.OK {
			at = wantFind(want, v)
		}
		if n, e := Find(kind, ends, v); n != at || e != atErr {
			t.Errorf("Find(%d, %s, %s): %v %v, want %v %v", kind, brief(ends), brief(v), n, e, at, atErr)
		}
	}
	return wantErr
}

// brief is the beginning of what something looks like.
func brief(x any) string {
	return fmt.Sprintf("%.300s", fmt.Sprint(x))
}

func truthOf(yes bool) api.Value { return api.Value{Kind: api.Bool, Yes: yes} }

func text(s string) api.Value { return api.Value{Kind: api.Text, Text: s} }

func day(n int) api.Value { return api.Value{Kind: api.Date, Day: n} }

// num is the number that a text denotes.
func num(s string) api.Value {
	v, e := value.Read(s)
	if e != api.OK || v.Kind != api.Num {
		panic(s)
	}
	return v
}

// nums is the numbers of some texts.
func nums(list ...string) []api.Value {
	var values []api.Value
	for _, s := range list {
		values = append(values, num(s))
	}
	return values
}

// texts is some texts as values.
func texts(list ...string) []api.Value {
	var values []api.Value
	for _, s := range list {
		values = append(values, text(s))
	}
	return values
}

// days is some dates.
func days(list ...int) []api.Value {
	var values []api.Value
	for _, n := range list {
		values = append(values, day(n))
	}
	return values
}

// many is texts of letters a, the first of which has so many and the last one fewer than some number.
func many(from, to int) []api.Value {
	var values []api.Value
	for n := from; n < to; n++ {
		values = append(values, text(strings.Repeat("a", n)))
	}
	return values
}

// source makes numbers, the same ones in every test run.
type source struct{ state uint64 }

func (s *source) below(n int) int {
	s.state = s.state*6364136223846793005 + 1442695040888963407
	x := s.state
	x ^= x >> 33
	x *= 0xff51afd7ed558ccd
	return int((x ^ x>>29) >> 1 % uint64(n))
}

// pick is one of some things.
func pick[T any](s *source, list ...T) T {
	return list[s.below(len(list))]
}

// number is a random number, often one near a place where the decimals get farther from one another.
func (s *source) number() api.Value {
	n := pick(s, big.NewInt(0), big.NewInt(0), power(34), power(33), power(35), power(40), power(51), power(52), new(big.Int).Sub(power(52), power(18)), big.NewInt(int64(s.below(1<<60))), new(big.Int).Mul(big.NewInt(int64(s.below(100))), power(s.below(30))))
	n = new(big.Int).Add(n, new(big.Int).Mul(big.NewInt(int64(s.below(7)-3)), power(s.below(20))))
	if s.below(2) == 0 {
		n.Neg(n)
	}
	v, ok := ranked(api.Num, n)
	if !ok {
		return s.number()
	}
	return v
}

// value is a random value of a kind.
func (s *source) value(kind int) api.Value {
	switch kind {
	case api.Bool:
		return truthOf(s.below(2) == 0)
	case api.Num:
		return s.number()
	case api.Text:
		return text(strings.Repeat("a", s.below(5)) + pick(s, "", "", "", "b", "é", "A", "\n"))
	}
	return day(pick(s, 1, 2, 3, 3652059, 3652058, 3652057, 700000+s.below(9), 1+s.below(3652059)))
}
