package date

import (
	"math"
	"math/big"
	"testing"
	"time"

	"tariff/api"
)

// someDays are the ends of the calendar, ends of months, leap days, and days between.
func someDays() []int {
	var list []int
	for _, year := range []int{1, 2, 3, 4, 99, 100, 101, 399, 400, 401, 1899, 1900, 1999, 2000, 2023, 2024, 9996, 9998, 9999} {
		for month := 1; month <= 12; month++ {
			last, _ := Length(year, month)
			for _, day := range []int{1, 2, 15, 28, last - 1, last} {
				n, _ := Day(year, month, day)
				list = append(list, n)
			}
		}
	}
	return list
}

// someSteps are numbers of days or months: small ones, ones that lead just to
// the calendar's ends, and ones beyond.
func someSteps(toFirst, toLast int) []int {
	list := []int{math.MaxInt, math.MaxInt - 1, math.MinInt, math.MinInt + 1, math.MaxInt / 2, math.MinInt / 2, math.MaxInt - toFirst, math.MinInt + toLast,
		1 << 31, -1 << 31, 1 << 32, -1 << 32, 1<<32 + 1, 146097, -146097, 1461, -1461, 4800, -4800}
	for n := -30; n <= 30; n++ {
		list = append(list, n, toFirst+n, toLast+n, 365+n, -365+n, 1200+n, -1200+n)
	}
	return list
}

// P3.2: Add is the sum where it is a day, for every int.
func TestAdd(t *testing.T) {
	for _, day := range someDays() {
		for _, n := range someSteps(1-day, api.MaxDay-day) {
			want, wantErr := 0, api.ErrFar
			sum := new(big.Int).Add(big.NewInt(int64(day)), big.NewInt(int64(n)))
			if sum.Cmp(big.NewInt(1)) >= 0 && sum.Cmp(big.NewInt(api.MaxDay)) <= 0 {
				want, wantErr = int(sum.Int64()), api.OK
			}
			if got, e := Add(day, n); got != want || e != wantErr {
				t.Error("Add", day, n, got, e)
			}
		}
	}
}

// wantMonths is Months by the library: the month first, then the day in it.
func wantMonths(day, n int) (int, api.Errno) {
	if n < -200000 || n > 200000 {
		return 0, api.ErrFar
	}
	year, month, rest, _ := Split(day)
	first := time.Date(year, time.Month(month+n), 1, 0, 0, 0, 0, time.UTC)
	if first.Year() < 1 || first.Year() > 9999 {
		return 0, api.ErrFar
	}
	last := first.AddDate(0, 1, -1).Day()
	got, _ := Day(first.Year(), int(first.Month()), min(rest, last))
	return got, api.OK
}

// P3.2: Months keeps the day of the month, or takes the month's last.
func TestMonths(t *testing.T) {
	for _, day := range someDays() {
		year, month, _, _ := Split(day)
		first := -(year-1)*12 - month + 1
		for _, n := range someSteps(first, first+9999*12-1) {
			want, wantErr := wantMonths(day, n)
			if got, e := Months(day, n); got != want || e != wantErr {
				t.Error("Months", day, n, got, e, "want", want, wantErr)
			}
		}
	}
}

// P3.2: the chapter's examples.
func TestLaterExamples(t *testing.T) {
	for _, c := range []struct{ day, n int }{{1, -1}, {api.MaxDay, 1}, {1, math.MaxInt}, {api.MaxDay, math.MaxInt}, {1, math.MinInt}, {api.MaxDay, math.MinInt}} {
		if got, e := Add(c.day, c.n); got != 0 || e != api.ErrFar {
			t.Error("Add", c, got, e)
		}
		if got, e := Months(c.day, c.n); got != 0 || e != api.ErrFar {
			t.Error("Months", c, got, e)
		}
	}
	if got, e := Add(1, api.MaxDay-1); got != api.MaxDay || e != api.OK {
		t.Error("Add to the last day", got, e)
	}
	if got, e := Add(api.MaxDay, 1-api.MaxDay); got != 1 || e != api.OK {
		t.Error("Add to the first day", got, e)
	}
	from := dayOf(t, 2024, 1, 31)
	for n, want := range map[int]int{0: from, 1: dayOf(t, 2024, 2, 29), -11: dayOf(t, 2023, 2, 28), 3: dayOf(t, 2024, 4, 30), 12: dayOf(t, 2025, 1, 31),
		13: dayOf(t, 2025, 2, 28), -1: dayOf(t, 2023, 12, 31), -2: dayOf(t, 2023, 11, 30), 7975*12 + 11: dayOf(t, 9999, 12, 31), -2023 * 12: dayOf(t, 1, 1, 31)} {
		if got, e := Months(from, n); got != want || e != api.OK {
			t.Error("Months", n, got, e)
		}
	}
}
