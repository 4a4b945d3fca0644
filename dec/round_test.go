package dec

import (
	"math"
	"math/big"
	"testing"

	"tariff/api"
)

// P2.3: Floor and Ceil are whole numbers beside a.
func TestFloorAndCeil(t *testing.T) {
	each(func(a api.Dec) {
		low := floor(rat(a))
		got, e := Floor(a)
		same(t, "Floor", got, e, formed(low, 0), api.OK)
		high := floor(new(big.Rat).Neg(rat(a)))
		got, e = Ceil(a)
		same(t, "Ceil", got, e, formed(high.Neg(high), 0), api.OK)
	})
	got, e := Floor(read(t, "-0.5"))
	says(t, "Floor", got, e, "-1")
	got, e = Ceil(read(t, "-0.5"))
	same(t, "Ceil", got, e, zero, api.OK)
}

// P2.3: Round is the nearest multiple, ties to the even one.
func TestRound(t *testing.T) {
	each(func(a api.Dec) {
		for n := 0; n <= 18; n++ {
			got, e := Round(a, n)
			same(t, "Round", got, e, formed(nearest(times(rat(a), n)), n), api.OK)
		}
		for _, n := range []int{-1, 19, math.MinInt, math.MaxInt} {
			got, e := Round(a, n)
			same(t, "Round", got, e, zero, api.ErrArg)
		}
	})
	for _, c := range []struct {
		a    string
		n    int
		want string
	}{{"2.5", 0, "2"}, {"3.5", 0, "4"}, {"-2.5", 0, "-2"}, {"-0.5", 0, "0"}, {"0.51", 0, "1"}, {"1.25", 1, "1.2"}, {"1.35", 1, "1.4"},
		{"1.251", 1, "1.3"}, {"9.99", 1, "10"}, {"1.04", 1, "1"}, {"0.000000000000000005", 17, "0"}, {"0.000000000000000015", 17, "0.00000000000000002"}} {
		got, e := Round(read(t, c.a), c.n)
		says(t, "Round of "+c.a, got, e, c.want)
	}
}

// P2.3: Next and Prev find the nearest decimal, and each leads back from where
// the other led.
func TestNeighbours(t *testing.T) {
	each(func(a api.Dec) {
		want, wantErr := after(rat(a))
		next, e := Next(a)
		same(t, "Next", next, e, want, wantErr)
		if e == api.OK {
			back, e := Prev(next)
			same(t, "Prev of Next", back, e, a, api.OK)
		}
		want, wantErr = after(new(big.Rat).Neg(rat(a)))
		prev, e := Prev(a)
		same(t, "Prev", prev, e, opposite(want), wantErr)
		if e == api.OK {
			back, e := Next(prev)
			same(t, "Next of Prev", back, e, a, api.OK)
		}
	})
}

// P2.3: neighbours at every place where the scale changes.
func TestNeighboursOfPowers(t *testing.T) {
	for k := -18; k <= 33; k++ {
		a := api.Dec{Coef: api.Wide{Lo: 1}, Scale: -k}
		if k >= 0 {
			a = api.Dec{Coef: toWide(bigTen(k))}
		}
		for _, d := range []api.Dec{a, opposite(a)} {
			want, _ := after(rat(d))
			got, e := Next(d)
			same(t, "Next", got, e, want, api.OK)
			back, e := Prev(got)
			same(t, "Prev", back, e, d, api.OK)
			want, _ = after(rat(opposite(d)))
			got, e = Prev(d)
			same(t, "Prev", got, e, opposite(want), api.OK)
			back, e = Next(got)
			same(t, "Next", back, e, d, api.OK)
		}
	}
}

// P2.3: the chapter's examples of neighbours, and the ends.
func TestNeighbourExamples(t *testing.T) {
	tiny, top := "0.000000000000000001", "9999999999999999999999999999999999"
	for from, to := range map[string]string{
		"0":                                    tiny,
		"-" + tiny:                             "0",
		"9999999999999999.999999999999999999":  "10000000000000000",
		"10000000000000000":                    "10000000000000000.00000000000000001",
		"9999999999999999999999999999999998":   top,
		"999999999999999999999999999999999.9":  "1000000000000000000000000000000000",
		"1000000000000000000000000000000000":   "1000000000000000000000000000000001",
		"-1000000000000000000000000000000000":  "-999999999999999999999999999999999.9",
		"-10000000000000000":                   "-9999999999999999.999999999999999999",
		"-" + top:                              "-9999999999999999999999999999999998",
		"1":                                    "1.000000000000000001",
		"-10000000000000000.00000000000000001": "-10000000000000000",
	} {
		got, e := Next(read(t, from))
		says(t, "Next of "+from, got, e, to)
		got, e = Prev(read(t, to))
		says(t, "Prev of "+to, got, e, from)
	}
	got, e := Next(read(t, top))
	same(t, "Next of the greatest", got, e, zero, api.ErrOver)
	got, e = Prev(read(t, "-"+top))
	same(t, "Prev of the least", got, e, zero, api.ErrOver)
}
