package dec

import (
	"math/big"
	"strings"
	"testing"

	"tariff/api"
)

// What the chapter says, worked out by fractions of whole numbers of any size.

var zero = api.Dec{}

// bigTen is 10^k.
func bigTen(k int) *big.Int {
	return new(big.Int).Exp(big.NewInt(10), big.NewInt(int64(k)), nil)
}

// bigWide is a Wide as a whole number.
func bigWide(a api.Wide) *big.Int {
	n := new(big.Int).SetUint64(a.Hi)
	n.Lsh(n, 64)
	return n.Or(n, new(big.Int).SetUint64(a.Lo))
}

// toWide is the Wide of a whole number below 2^128.
func toWide(n *big.Int) api.Wide {
	low := new(big.Int).And(n, new(big.Int).SetUint64(1<<64-1))
	return api.Wide{Hi: new(big.Int).Rsh(n, 64).Uint64(), Lo: low.Uint64()}
}

// rat is a decimal as a fraction.
func rat(d api.Dec) *big.Rat {
	r := new(big.Rat).SetFrac(bigWide(d.Coef), bigTen(d.Scale))
	if d.Neg {
		r.Neg(r)
	}
	return r
}

// floor is the greatest whole number at most r.
func floor(r *big.Rat) *big.Int {
	return new(big.Int).Div(r.Num(), r.Denom())
}

// nearest is the whole number nearest to r, ties to even.
func nearest(r *big.Rat) *big.Int {
	n := floor(r)
	rest := new(big.Rat).Sub(r, new(big.Rat).SetInt(n))
	side := rest.Cmp(big.NewRat(1, 2))
	if side > 0 || side == 0 && n.Bit(0) == 1 {
		n.Add(n, big.NewInt(1))
	}
	return n
}

// times is r * 10^s.
func times(r *big.Rat, s int) *big.Rat {
	return new(big.Rat).Mul(r, new(big.Rat).SetInt(bigTen(s)))
}

// formed is n / 10^s in form, where it has room.
func formed(n *big.Int, s int) api.Dec {
	neg := n.Sign() < 0
	n = new(big.Int).Abs(n)
	for s > 0 && new(big.Int).Rem(n, big.NewInt(10)).Sign() == 0 {
		n.Quo(n, big.NewInt(10))
		s--
	}
	return api.Dec{Neg: neg, Coef: toWide(n), Scale: s}
}

// fitted is r fitted, or ErrOver.
func fitted(r *big.Rat) (api.Dec, api.Errno) {
	for s := 18; s >= 0; s-- {
		n := nearest(times(r, s))
		if n.CmpAbs(bigTen(34)) < 0 {
			return formed(n, s), api.OK
		}
	}
	return zero, api.ErrOver
}

// quotientFloor is the floor of a / b.
func quotientFloor(a, b *big.Rat) *big.Rat {
	return new(big.Rat).SetInt(floor(new(big.Rat).Quo(a, b)))
}

// after is the least decimal above r: of every scale the least multiple above it
// that has room is looked at.
func after(r *big.Rat) (api.Dec, api.Errno) {
	var best *big.Rat
	var found api.Dec
	least := new(big.Int).Neg(bigTen(34))
	least.Add(least, big.NewInt(1))
	for s := 0; s <= 18; s++ {
		n := floor(times(r, s))
		n.Add(n, big.NewInt(1))
		if n.Cmp(least) < 0 {
			n.Set(least)
		}
		if n.Cmp(bigTen(34)) >= 0 {
			continue
		}
		x := new(big.Rat).SetFrac(n, bigTen(s))
		if best == nil || x.Cmp(best) < 0 {
			best, found = x, formed(n, s)
		}
	}
	if best == nil {
		return zero, api.ErrOver
	}
	return found, api.OK
}

// opposite is a decimal with the other sign.
func opposite(d api.Dec) api.Dec {
	d.Neg = !d.Neg && d != zero
	return d
}

// source makes decimals, the same ones in every test run.
type source struct{ state uint64 }

func (s *source) next() uint64 {
	s.state = s.state*6364136223846793005 + 1442695040888963407
	x := s.state
	x ^= x >> 33
	x *= 0xff51afd7ed558ccd
	return x ^ x>>29
}

// below is a number from 0 to n-1.
func (s *source) below(n int) int { return int(s.next() % uint64(n)) }

// digits is a text of n digits, often of a sort that leads to carries and ties.
func (s *source) digits(n int) string {
	switch s.below(6) {
	case 0:
		return strings.Repeat("9", n)
	case 1:
		return "1" + strings.Repeat("0", n-1)
	case 2:
		return strings.Repeat("9", n-1) + "5"
	case 3:
		return "1" + strings.Repeat("0", n-1)[:n/2] + strings.Repeat("5", n)[:n-1-n/2]
	}
	var b strings.Builder
	for range n {
		b.WriteByte(byte('0' + s.below(10)))
	}
	return b.String()
}

// dec is a decimal in form.
func (s *source) dec() api.Dec {
	length := 34
	if s.below(2) == 0 {
		length = 1 + s.below(34)
	}
	n, _ := new(big.Int).SetString(s.digits(length), 10)
	if s.below(2) == 0 {
		n.Neg(n)
	}
	return formed(n, s.below(19))
}

// edges are decimals where carries, bounds and changes of the scale are.
func edges() []api.Dec {
	list := []api.Dec{zero}
	for _, s := range []string{"1", "2", "3", "5", "7", "10", "0.1", "0.5", "0.3", "1.5", "2.5", "0.000000000000000001",
		"0.000000000000000002", "0.000000000000000005", "0.999999999999999999", "1.000000000000000001",
		"9999999999999999.999999999999999999", "9999999999999999.999999999999999998", "10000000000000000",
		"10000000000000000.00000000000000001", "99999999999999999.99999999999999999", "100000000000000000",
		"999999999999999999999999999999999.9", "1000000000000000000000000000000000", "1000000000000000000000000000000001",
		"9999999999999999999999999999999999", "9999999999999999999999999999999998", "5000000000000000000000000000000000",
		"4999999999999999999999999999999999", "9223372036854775807", "9223372036854775808", "9223372036854775809",
		"18446744073709551615", "18446744073709551616", "0.000000000000000000", "999999999999999.9999999999999999"} {
		d, e := Parse(s)
		if e != api.OK {
			panic("an edge is not a decimal: " + s)
		}
		list = append(list, d, opposite(d))
	}
	return list
}

// each hands all edges, and many decimals made by the source, to a check.
func each(check func(a api.Dec)) {
	for _, a := range edges() {
		check(a)
	}
	s := &source{state: 11}
	for range 5000 {
		check(s.dec())
	}
}

// pairs hands all pairs of edges, and many made by the source, to a check.
func pairs(check func(a, b api.Dec)) {
	for _, a := range edges() {
		for _, b := range edges() {
			check(a, b)
		}
	}
	s := &source{state: 12}
	for range 8000 {
		check(s.dec(), s.dec())
	}
}

// read is the decimal of a text that a test is sure of.
func read(t *testing.T, s string) api.Dec {
	t.Helper()
	d, e := Parse(s)
	if e != api.OK {
		t.Fatal("Parse", s, e)
	}
	return d
}

// same holds a call's answer against the right one.
func same(t *testing.T, what string, got api.Dec, e api.Errno, want api.Dec, wantErr api.Errno) {
	t.Helper()
	if got != want || e != wantErr {
		t.Error(what, "is", got, e, "want", want, wantErr)
	}
	if !Form(got) {
		t.Error(what, "is not in form:", got)
	}
}

// says holds a call's answer against a text.
func says(t *testing.T, what string, got api.Dec, e api.Errno, want string) {
	t.Helper()
	text, f := Print(got)
	if e != api.OK || f != api.OK || text != want {
		t.Error(what, "is", text, e, f, "want", want)
	}
}
