package dec

import (
	"math"
	"math/big"
	"testing"

	"tariff/api"
)

// unformed are decimals that are not in form, each for another reason.
func unformed() []api.Dec {
	most := uint64(math.MaxUint64)
	beyond := toWide(bigTen(34))
	return []api.Dec{
		{Neg: true},
		{Scale: 1},
		{Scale: 18},
		{Neg: true, Scale: 3},
		{Coef: api.Wide{Lo: 10}, Scale: 1},
		{Coef: api.Wide{Lo: 1500}, Scale: 18},
		{Neg: true, Coef: api.Wide{Lo: 20}, Scale: 1},
		{Coef: api.Wide{Lo: 1}, Scale: -1},
		{Coef: api.Wide{Lo: 1}, Scale: 19},
		{Coef: api.Wide{Lo: 1}, Scale: math.MaxInt},
		{Coef: api.Wide{Lo: 1}, Scale: math.MinInt},
		{Scale: -1},
		{Coef: beyond},
		{Coef: toWide(new(big.Int).Add(bigTen(34), big.NewInt(1))), Scale: 18},
		{Neg: true, Coef: api.Wide{Hi: most, Lo: most}},
		{Neg: true, Coef: api.Wide{Hi: most, Lo: most}, Scale: math.MinInt},
		{Coef: toWide(bigTen(33)), Scale: 5},
	}
}

// P2.1: Form tells decimals in form from all others.
func TestForm(t *testing.T) {
	for _, d := range unformed() {
		if Form(d) {
			t.Error("Form", d)
		}
	}
	each(func(a api.Dec) {
		if !Form(a) {
			t.Error("Form", a)
		}
	})
	for _, d := range []api.Dec{zero, {Coef: api.Wide{Lo: 10}}, {Coef: api.Wide{Lo: 11}, Scale: 18}, {Neg: true, Coef: toWide(bigTen(33))}} {
		if !Form(d) {
			t.Error("Form", d)
		}
	}
}

// P2.1: Make fits coefficients of every size at every scale.
func TestMake(t *testing.T) {
	coefs := []api.Wide{{}, {Lo: 1}, {Lo: 5}, {Lo: 1500}, {Hi: 1}, {Hi: math.MaxUint64, Lo: math.MaxUint64}}
	for k := 1; k <= 38; k++ {
		for _, n := range []*big.Int{bigTen(k), new(big.Int).Sub(bigTen(k), big.NewInt(1)), new(big.Int).Mul(big.NewInt(15), bigTen(k-1)),
			new(big.Int).Quo(bigTen(k), big.NewInt(2))} {
			coefs = append(coefs, toWide(n))
		}
	}
	for _, coef := range coefs {
		for scale := 0; scale <= 60; scale++ {
			r := new(big.Rat).SetFrac(bigWide(coef), bigTen(scale))
			want, wantErr := fitted(r)
			got, e := Make(false, coef, scale)
			same(t, "Make", got, e, want, wantErr)
			got, e = Make(true, coef, scale)
			same(t, "Make", got, e, opposite(want), wantErr)
		}
	}
}

// P2.1: the chapter's examples of Make, and wrong scales.
func TestMakeExamples(t *testing.T) {
	got, e := Make(false, api.Wide{Lo: 1500}, 2)
	says(t, "Make", got, e, "15")
	got, e = Make(true, api.Wide{}, 5)
	same(t, "Make of 0", got, e, zero, api.OK)
	got, e = Make(true, api.Wide{Lo: 1}, 60)
	same(t, "Make of almost 0", got, e, zero, api.OK)
	got, e = Make(false, toWide(bigTen(34)), 0)
	same(t, "Make beyond", got, e, zero, api.ErrOver)
	for _, scale := range []int{-1, 61, math.MaxInt, math.MinInt} {
		for _, coef := range []api.Wide{{}, {Lo: 1}, {Hi: math.MaxUint64}} {
			got, e = Make(true, coef, scale)
			same(t, "Make", got, e, zero, api.ErrArg)
		}
	}
}

// P2.1: Of and Int are each other's reverse, to the ends of the ints.
func TestOfAndInt(t *testing.T) {
	for _, n := range []int{0, 1, -1, 10, -10, 100000, math.MaxInt, math.MaxInt - 1, math.MinInt, math.MinInt + 1} {
		d := Of(n)
		if !Form(d) || rat(d).Cmp(new(big.Rat).SetInt64(int64(n))) != 0 {
			t.Error("Of", n, d)
		}
		if got, e := Int(d); got != n || e != api.OK {
			t.Error("Int", n, got, e)
		}
	}
	for text, want := range map[string]api.Errno{
		"2.5": api.ErrType, "-0.000000000000000001": api.ErrType, "9999999999999999.5": api.ErrType,
		"999999999999999999999.5": api.ErrType,
		"9223372036854775808":     api.ErrOver, "-9223372036854775809": api.ErrOver, "18446744073709551616": api.ErrOver,
		"18446744073709551617": api.ErrOver, "-9999999999999999999999999999999999": api.ErrOver,
	} {
		if got, e := Int(read(t, text)); got != 0 || e != want {
			t.Error("Int", text, got, e)
		}
	}
}

// P2.1: Cmp is that of the numbers.
func TestCmp(t *testing.T) {
	pairs(func(a, b api.Dec) {
		if got, e := Cmp(a, b); got != rat(a).Cmp(rat(b)) || e != api.OK {
			t.Error("Cmp", a, b, got, e)
		}
		if got, e := Cmp(a, a); got != 0 || e != api.OK {
			t.Error("Cmp with itself", a, got, e)
		}
	})
}

// P2.1: Neg and Abs; zero has no sign.
func TestNegAndAbs(t *testing.T) {
	each(func(a api.Dec) {
		got, e := Neg(a)
		same(t, "Neg", got, e, opposite(a), api.OK)
		got, e = Abs(a)
		want := a
		want.Neg = false
		same(t, "Abs", got, e, want, api.OK)
	})
	got, e := Neg(zero)
	same(t, "Neg of 0", got, e, zero, api.OK)
}

// P1, P2.1 to P2.4: a decimal that is not in form is ErrForm, and nothing beside
// it, in whichever place it stands; a smaller error goes before it, no greater one.
func TestErrForm(t *testing.T) {
	ones := map[string]func(a api.Dec) (api.Dec, api.Errno){
		"Neg": Neg, "Abs": Abs, "Floor": Floor, "Ceil": Ceil, "Next": Next, "Prev": Prev,
		"Round": func(a api.Dec) (api.Dec, api.Errno) { return Round(a, 18) },
	}
	twos := map[string]func(a, b api.Dec) (api.Dec, api.Errno){"Add": Add, "Sub": Sub, "Mul": Mul, "Div": Div, "Mod": Mod}
	partners := append(unformed(), edges()...)
	for _, d := range unformed() {
		for name, call := range ones {
			got, e := call(d)
			same(t, name, got, e, zero, api.ErrForm)
		}
		for name, call := range twos {
			for _, other := range partners {
				got, e := call(d, other)
				same(t, name, got, e, zero, api.ErrForm)
				got, e = call(other, d)
				same(t, name, got, e, zero, api.ErrForm)
			}
		}
		for _, other := range partners {
			if got, e := Cmp(d, other); got != 0 || e != api.ErrForm {
				t.Error("Cmp", d, other, got, e)
			}
			if got, e := Cmp(other, d); got != 0 || e != api.ErrForm {
				t.Error("Cmp", other, d, got, e)
			}
		}
		if got, e := Int(d); got != 0 || e != api.ErrForm {
			t.Error("Int", d, got, e)
		}
		if got, e := Print(d); got != "" || e != api.ErrForm {
			t.Error("Print", d, got, e)
		}
		got, e := Round(d, 19)
		same(t, "Round", got, e, zero, api.ErrArg)
	}
}
