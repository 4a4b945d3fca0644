package date

import (
	"math"
	"testing"
	"time"

	"tariff/api"
)

var (
	wrongDays  = []int{0, -1, -2, api.MaxDay + 1, api.MaxDay + 2, 1 << 31, 1 << 32, 1<<32 + 5, math.MaxInt, math.MaxInt - 1, math.MinInt, math.MinInt + 1}
	wrongYears = []int{0, -1, -4, -400, 10000, 10004, 1 << 32, 1<<32 + 2024, math.MaxInt, math.MinInt}
)

// dayOf is the number of a day that there is.
func dayOf(t *testing.T, year, month, day int) int {
	t.Helper()
	n, e := Day(year, month, day)
	if e != api.OK {
		t.Fatal("Day", year, month, day, e)
	}
	return n
}

// each hands every day of the calendar to a check, with the library's opinion of it.
func each(check func(day int, want time.Time)) {
	want := time.Date(1, 1, 1, 0, 0, 0, 0, time.UTC)
	for day := 1; day <= api.MaxDay; day++ {
		check(day, want)
		want = want.Add(24 * time.Hour)
	}
}

// P3.1: Leap holds for years on both sides of 0, of any size.
func TestLeap(t *testing.T) {
	for year, want := range map[int]bool{2000: true, 2024: true, 1900: false, 2023: false, 0: true, -4: true, -1: false, -2: false, -3: false,
		-100: false, -400: true, 4: true, 100: false, 400: true, 10000: true, 10100: false, 1: false, 2: false, 3: false,
		math.MaxInt64: false, math.MaxInt64 - 3: true, math.MinInt64: true, math.MinInt64 + 1: false} {
		if Leap(year) != want {
			t.Error("Leap", year)
		}
	}
	for year := -2000; year <= 12000; year++ {
		want := time.Date(year, 12, 31, 0, 0, 0, 0, time.UTC).YearDay() == 366
		if Leap(year) != want {
			t.Error("Leap", year)
		}
	}
}

// P3.1: Length of each month of each year, and of none beside them.
func TestLength(t *testing.T) {
	for year := 1; year <= 9999; year++ {
		for month := 1; month <= 12; month++ {
			want := time.Date(year, time.Month(month)+1, 0, 0, 0, 0, 0, time.UTC).Day()
			if n, e := Length(year, month); n != want || e != api.OK {
				t.Error("Length", year, month, n, e)
			}
		}
		for _, month := range []int{0, -1, 13, 14, math.MaxInt, math.MinInt} {
			if n, e := Length(year, month); n != 0 || e != api.ErrArg {
				t.Error("Length", year, month, n, e)
			}
		}
	}
	for _, year := range wrongYears {
		if n, e := Length(year, 1); n != 0 || e != api.ErrArg {
			t.Error("Length", year, n, e)
		}
	}
}

// P3.1: Day, Split and Weekday of every day.
func TestEachDay(t *testing.T) {
	each(func(day int, want time.Time) {
		year, month, rest := want.Date()
		if n, e := Day(year, int(month), rest); n != day || e != api.OK {
			t.Fatal("Day", year, month, rest, n, e)
		}
		y, m, d, e := Split(day)
		if y != year || m != int(month) || d != rest || e != api.OK {
			t.Fatal("Split", day, y, m, d, e)
		}
		weekday := int(want.Weekday())
		if weekday == 0 {
			weekday = 7
		}
		if w, e := Weekday(day); w != weekday || e != api.OK {
			t.Fatal("Weekday", day, w, e)
		}
	})
}

// P3.1: the chapter's examples.
func TestDayExamples(t *testing.T) {
	if dayOf(t, 1, 1, 1) != 1 || dayOf(t, 9999, 12, 31) != api.MaxDay || dayOf(t, 1970, 1, 1) != 719163 {
		t.Error("Day")
	}
	if y, m, d, e := Split(719163); y != 1970 || m != 1 || d != 1 || e != api.OK {
		t.Error("Split", y, m, d, e)
	}
	if w, e := Weekday(719163); w != 4 || e != api.OK {
		t.Error("Weekday", w, e)
	}
	if w, e := Weekday(1); w != 1 || e != api.OK {
		t.Error("Weekday of the first", w, e)
	}
}

// P3.1: Day of what is no day.
func TestDayWrong(t *testing.T) {
	for _, c := range [][3]int{{2023, 2, 29}, {1900, 2, 29}, {2024, 2, 30}, {2024, 4, 31}, {2024, 1, 32}, {2024, 1, 0}, {2024, 1, -1}, {2024, 0, 1},
		{2024, 13, 1}, {2024, -1, 1}, {2024, 1, math.MaxInt}, {2024, 1, math.MinInt}, {2024, math.MaxInt, 1}, {2024, math.MinInt, 1}} {
		if n, e := Day(c[0], c[1], c[2]); n != 0 || e != api.ErrArg {
			t.Error("Day", c, n, e)
		}
	}
	for _, year := range wrongYears {
		if n, e := Day(year, 1, 1); n != 0 || e != api.ErrArg {
			t.Error("Day", year, n, e)
		}
	}
}

// P3.1, P3.2, P3.3: numbers that are no day's.
func TestWrongDays(t *testing.T) {
	for _, day := range wrongDays {
		if y, m, d, e := Split(day); y != 0 || m != 0 || d != 0 || e != api.ErrArg {
			t.Error("Split", day, y, m, d, e)
		}
		if w, e := Weekday(day); w != 0 || e != api.ErrArg {
			t.Error("Weekday", day, w, e)
		}
		if s, e := Print(day); s != "" || e != api.ErrArg {
			t.Error("Print", day, s, e)
		}
		for _, n := range []int{0, 1, -1, 5, -day, math.MaxInt, math.MinInt} {
			if got, e := Add(day, n); got != 0 || e != api.ErrArg {
				t.Error("Add", day, n, got, e)
			}
			if got, e := Months(day, n); got != 0 || e != api.ErrArg {
				t.Error("Months", day, n, got, e)
			}
		}
	}
}
