package date

import (
	"fmt"
	"strings"
	"testing"
	"time"

	"tariff/api"
)

// P3.3: Print writes every day, and Parse reads it.
func TestPrintAndParse(t *testing.T) {
	each(func(day int, want time.Time) {
		s, e := Print(day)
		if s != want.Format("2006-01-02") || e != api.OK {
			t.Fatal("Print", day, s, e)
		}
		if got, e := Parse(s); got != day || e != api.OK {
			t.Fatal("Parse", s, got, e)
		}
	})
}

// P3.3: what has the syntax is a day, or too far.
func TestParseNumbers(t *testing.T) {
	for _, year := range []int{0, 1, 4, 999, 1900, 2000, 2023, 2024, 9999} {
		for month := 0; month <= 99; month++ {
			for day := 0; day <= 99; day++ {
				s := fmt.Sprintf("%04d-%02d-%02d", year, month, day)
				want, e := Day(year, month, day)
				wantErr := api.OK
				if e != api.OK {
					wantErr = api.ErrFar
				}
				if got, e := Parse(s); got != want || e != wantErr {
					t.Error("Parse", s, got, e)
				}
			}
		}
	}
	for _, s := range []string{"2023-02-29", "0000-01-01", "0000-00-00", "9999-12-32", "9999-99-99"} {
		if got, e := Parse(s); got != 0 || e != api.ErrFar {
			t.Error("Parse", s, got, e)
		}
	}
}

// P3.3: what has not the syntax.
func TestParseWrong(t *testing.T) {
	for _, s := range []string{"", "2024-2-29", "+024-02-29", "-024-02-29", "2024-02-9", "2024-02-029", "02024-02-29", "2024-02-29 ", " 2024-02-29", "2024/02/29",
		"2024-02/29", "20240229", "2024-0229-", "24-02-29", "2024-02", "2024-02-", "----------", "2024-+2-29", "2024-02-+9", "2024-02--9", "2024-02-2\x00",
		"2024-02-2\xff", "2024−02−29", "2024-02-٣", "2024-02-29T00", "2023-02-2x", "0000-00-0", strings.Repeat("2024-02-29", 1000)} {
		if got, e := Parse(s); got != 0 || e != api.ErrText {
			t.Error("Parse", s, got, e)
		}
	}
	// One byte of a date changed: only a digit for a digit, and a - for a -, keeps the syntax.
	for i := range "2024-10-11" {
		for c := 0; c < 256; c++ {
			b := []byte("2024-10-11")
			b[i] = byte(c)
			_, e := Parse(string(b))
			keeps := c == '-'
			if i != 4 && i != 7 {
				keeps = c >= '0' && c <= '9'
			}
			if keeps == (e == api.ErrText) {
				t.Errorf("Parse: %q %v", b, e)
			}
		}
	}
}
