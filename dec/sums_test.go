package dec

import (
	"math/big"
	"testing"

	"tariff/api"
)

// P2.2: Add, Sub, Mul, Div and Mod are the exact results, fitted.
func TestSums(t *testing.T) {
	pairs(func(a, b api.Dec) {
		x, y := rat(a), rat(b)
		want, wantErr := fitted(new(big.Rat).Add(x, y))
		got, e := Add(a, b)
		same(t, "Add", got, e, want, wantErr)
		want, wantErr = fitted(new(big.Rat).Sub(x, y))
		got, e = Sub(a, b)
		same(t, "Sub", got, e, want, wantErr)
		want, wantErr = fitted(new(big.Rat).Mul(x, y))
		got, e = Mul(a, b)
		same(t, "Mul", got, e, want, wantErr)
	})
}

// P2.2: the same of quotients and of what they leave.
func TestQuotients(t *testing.T) {
	pairs(func(a, b api.Dec) {
		if b == zero {
			got, e := Div(a, b)
			same(t, "Div by 0", got, e, zero, api.ErrZero)
			got, e = Mod(a, b)
			same(t, "Mod by 0", got, e, zero, api.ErrZero)
			return
		}
		x, y := rat(a), rat(b)
		want, wantErr := fitted(new(big.Rat).Quo(x, y))
		got, e := Div(a, b)
		same(t, "Div", got, e, want, wantErr)
		rest := new(big.Rat).Mul(y, quotientFloor(x, y))
		want, wantErr = fitted(rest.Sub(x, rest))
		got, e = Mod(a, b)
		same(t, "Mod", got, e, want, wantErr)
	})
}

// P2.2: quotients that are ties, or nearly.
func TestDivTies(t *testing.T) {
	s := &source{state: 13}
	for range 20000 {
		// a = b * tie exactly, where it has room; its neighbours are near a tie.
		b := s.dec()
		tie := formed(big.NewInt(int64(s.below(2000000)*10+5)), s.below(19))
		a, e := Mul(b, tie)
		if e != api.OK || b == zero {
			continue
		}
		for _, move := range []func(api.Dec) (api.Dec, api.Errno){Abs, Next, Prev} {
			n, e := move(a)
			if e != api.OK {
				continue
			}
			want, wantErr := fitted(new(big.Rat).Quo(rat(n), rat(b)))
			got, e := Div(n, b)
			same(t, "Div", got, e, want, wantErr)
		}
	}
	// 0.000000000000000001 / 2 is a tie; with 1.999999999999999999 it is more, with
	// 2.000000000000000001 less.
	for text, want := range map[string]string{"2": "0", "1.999999999999999999": "0.000000000000000001", "2.000000000000000001": "0"} {
		got, e := Div(read(t, "0.000000000000000001"), read(t, text))
		says(t, "Div", got, e, want)
	}
	got, e := Div(read(t, "0.000000000000000003"), read(t, "2"))
	says(t, "Div", got, e, "0.000000000000000002")
	got, e = Div(read(t, "0.000000000000000005"), read(t, "2"))
	says(t, "Div", got, e, "0.000000000000000002")
}

// P2.2: the chapter's examples.
func TestSumExamples(t *testing.T) {
	calls := map[string]func(a, b api.Dec) (api.Dec, api.Errno){"Add": Add, "Sub": Sub, "Mul": Mul, "Div": Div, "Mod": Mod}
	top, power := "9999999999999999999999999999999999", "1000000000000000000000000000000000"
	for _, c := range []struct{ call, a, b, want string }{
		{"Add", "0.1", "0.2", "0.3"},
		{"Div", "1", "3", "0.333333333333333333"},
		{"Div", "2", "3", "0.666666666666666667"},
		{"Mul", "0.000000000000000001", "0.5", "0"},
		{"Mul", "-0.000000000000000001", "0.5", "0"},
		{"Mul", "0.000000000000000001", "1.5", "0.000000000000000002"},
		{"Add", top, "0.4", top},
		{"Add", power, "0.04", power},
		{"Add", power, "0.06", power},
		{"Add", power, "0.6", "1000000000000000000000000000000001"},
		{"Sub", power, "0.1", "999999999999999999999999999999999.9"},
		{"Mod", "-7", "3", "2"},
		{"Mod", "7", "-3", "-2"},
		{"Mod", "-7", "-3", "-1"},
		{"Mod", "-6", "3", "0"},
		{"Mod", "5.5", "2", "1.5"},
		{"Mod", "-0.000000000000000001", top, top},
		{"Mod", "0.000000000000000001", top, "0.000000000000000001"},
		{"Mod", top, "0.000000000000000007", "0.000000000000000003"},
	} {
		got, e := calls[c.call](read(t, c.a), read(t, c.b))
		says(t, c.call+" of "+c.a+" and "+c.b, got, e, c.want)
	}
	for _, c := range []struct {
		call, a, b string
		want       api.Errno
	}{
		{"Add", top, "1", api.ErrOver},
		{"Add", top, "0.5", api.ErrOver},
		{"Sub", "-" + top, "0.5", api.ErrOver},
		{"Mul", top, "2", api.ErrOver},
		{"Mul", top, top, api.ErrOver},
		{"Div", top, "0.1", api.ErrOver},
		{"Div", top, "0.000000000000000001", api.ErrOver},
		{"Div", "1", "0", api.ErrZero},
		{"Div", "0", "0", api.ErrZero},
		{"Mod", "1", "0", api.ErrZero},
	} {
		got, e := calls[c.call](read(t, c.a), read(t, c.b))
		same(t, c.call+" of "+c.a+" and "+c.b, got, e, zero, c.want)
	}
}
