package dec

import (
	"math/big"
	"strings"
	"testing"

	"tariff/api"
)

// P2.4: Parse takes what Print writes, and Print writes the number itself.
func TestPrintAndParse(t *testing.T) {
	each(func(a api.Dec) {
		text, e := Print(a)
		if e != api.OK {
			t.Error("Print", a, e)
		}
		want := rat(a).FloatString(a.Scale)
		if text != want {
			t.Error("Print", a, text, "want", want)
		}
		got, e := Parse(text)
		same(t, "Parse "+text, got, e, a, api.OK)
	})
}

// P2.4: Parse finds the form of texts with zeros that need not stand there.
func TestParseZeros(t *testing.T) {
	s := &source{state: 14}
	for range 5000 {
		a := s.dec()
		text, _ := Print(a)
		zeros := strings.Repeat("0", 1+s.below(40))
		if a.Scale == 0 {
			text += "."
		}
		got, e := Parse(text + zeros)
		same(t, "Parse "+text+zeros, got, e, a, api.OK)
	}
	for text, want := range map[string]string{
		"1.50": "1.5", "-0.5": "-0.5", "0": "0", "0.0": "0", "0.000000000000000000000000": "0", "15": "15", "100": "100", "10.0": "10",
		"0.10": "0.1", "-12.340": "-12.34", "0.000000000000000001": "0.000000000000000001",
		"9999999999999999999999999999999999.0": "9999999999999999999999999999999999",
		"0." + strings.Repeat("0", 100000):     "0",
		"7." + strings.Repeat("0", 100000):     "7",
	} {
		got, e := Parse(text)
		says(t, "Parse", got, e, want)
	}
}

// P2.4: texts that are not a number.
func TestParseWrong(t *testing.T) {
	nines := strings.Repeat("9", 100)
	for _, s := range []string{"", "-", "-0", "-0.0", "-0.00", "-0." + strings.Repeat("0", 100), "01", "00", "-01", "00.5", ".5", "-.5", "5.", "-5.", ".",
		"-.", "+1", "1e2", "1E2", "1,5", "1 ", " 1", "--1", "1-", "1.-5", "1.2.3", "1..2", "1_000", "0x10", "x", "1x", "1.x", "\x00", "\xff", "1\n", "٣",
		"1.٣", "NaN", "Inf", "1/2", "1:2", nines + "x", "0" + nines, nines + ".", "0." + nines + "x"} {
		got, e := Parse(s)
		same(t, "Parse "+s, got, e, zero, api.ErrText)
	}
}

// P2.4: numbers that no decimal in form equals.
func TestParseBeyond(t *testing.T) {
	for _, s := range []string{"0.0000000000000000001", "-0.0000000000000000001", "1.0000000000000000001", "10000000000000000000000000000000000",
		"99999999999999999999999999999999990", "9999999999999999999999999999999999.1", "99999999999999999.999999999999999999",
		"-10000000000000000.000000000000000001", "0.1234567890123456789", strings.Repeat("9", 35), "1" + strings.Repeat("0", 1000000),
		"0." + strings.Repeat("0", 1000000) + "1"} {
		got, e := Parse(s)
		same(t, "Parse", got, e, zero, api.ErrOver)
	}
}

// P2.4: every text of a few characters is taken or refused as the syntax says.
func TestParseShort(t *testing.T) {
	const marks = "-.0015"
	var grow func(s string, left int)
	grow = func(s string, left int) {
		got, e := Parse(s)
		want, wantErr := wantParse(s)
		same(t, "Parse "+s, got, e, want, wantErr)
		if left == 0 {
			return
		}
		for _, mark := range marks {
			grow(s+string(mark), left-1)
		}
	}
	grow("", 6)
}

// wantParse is the number of a text of digits, points and signs that is short.
func wantParse(s string) (api.Dec, api.Errno) {
	body := strings.TrimPrefix(s, "-")
	parts := strings.Split(body, ".")
	number, ok := new(big.Rat).SetString(body)
	bad := !ok || len(parts) > 2 || strings.Contains(body, "-")
	for _, part := range parts {
		bad = bad || part == ""
	}
	if bad || len(parts[0]) > 1 && parts[0][0] == '0' || s != body && number.Sign() == 0 {
		return zero, api.ErrText
	}
	if s != body {
		number.Neg(number)
	}
	return fitted(number)
}
