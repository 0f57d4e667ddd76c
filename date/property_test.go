package date_test

import (
	"math"
	"math/rand"
	"testing"

	"rollbook/api"
	"rollbook/date"
	"rollbook/tree"
)

// months returns what AddMonths has to return for n from -limit to limit (the result for n is at n + limit; -1 if there is no such day), going from month to month.
func months(t *testing.T, day, limit int) []int {
	t.Helper()
	from, e := date.Of(day)
	if e != api.OK {
		t.Fatalf("Of(%d): %v", day, e)
	}
	want := make([]int, 2*limit+1)
	fill := func(step int) {
		d := from
		for n := 0; n <= limit; n++ {
			want[limit+step*n] = -1
			if 1 <= d.Year && d.Year <= 9999 {
				want[limit+step*n] = dayOf(t, d.Year, d.Month, min(from.Day, lengthOf(d.Year, d.Month)))
			}
			d.Month += step
			if d.Month == 0 || d.Month == 13 {
				d.Year, d.Month = d.Year+step, d.Month-12*step
			}
		}
	}
	fill(1)
	fill(-1)
	return want
}

// checkMonths checks AddMonths for a day and all numbers from -limit to limit, and that the results do not decrease.
func checkMonths(t *testing.T, day, limit int) {
	t.Helper()
	before := 0
	for i, want := range months(t, day, limit) {
		got, e := date.AddMonths(day, i-limit)
		if want < 0 && (got != 0 || e != api.ErrRange) || want >= 0 && (got != want || e != api.OK) {
			t.Fatalf("AddMonths(%d, %d): %d, %v, want %d", day, i-limit, got, e, want)
		}
		if want >= 0 && got < before {
			t.Fatalf("AddMonths(%d, %d): %d after %d", day, i-limit, got, before)
		}
		before = got
	}
}

// P8.5, P8.9: all permitted numbers of months, from the first and the last days and some between them.
func TestAllNumbersOfMonths(t *testing.T) {
	for _, day := range []int{0, 30, 31, 58, 59, 364, 365, dayOf(t, 2024, 2, 29), dayOf(t, 2026, 1, 31), dayOf(t, 9998, 12, 31), dayOf(t, 9999, 1, 1), api.MaxDay - 31, api.MaxDay - 30, api.MaxDay} {
		checkMonths(t, day, 200000)
	}
}

// P8.5, P8.9: all days around some years, and some months.
func TestMonthsFromAllDays(t *testing.T) {
	for _, year := range []int{1, 2, 1899, 1900, 1996, 1999, 2000, 2023, 2024, 9998, 9999} {
		for day := dayOf(t, year, 1, 1); day <= dayOf(t, year, 12, 31); day++ {
			checkMonths(t, day, 61)
		}
	}
}

// P8.5: examples with the ends of months and years.
func TestAddMonths(t *testing.T) {
	for _, c := range []struct {
		from string
		n    int
		to   string
	}{
		{"2026-11-20", 0, "2026-11-20"}, {"2026-11-20", 1, "2026-12-20"}, {"2026-11-20", 2, "2027-01-20"}, {"2026-11-20", -10, "2026-01-20"}, {"2026-11-20", -11, "2025-12-20"},
		{"2024-01-31", 1, "2024-02-29"}, {"2023-01-31", 1, "2023-02-28"}, {"1900-01-29", 1, "1900-02-28"}, {"2000-01-30", 1, "2000-02-29"}, {"2024-01-29", 1, "2024-02-29"}, {"2023-01-28", 1, "2023-02-28"},
		{"2024-02-29", 12, "2025-02-28"}, {"2024-02-29", 48, "2028-02-29"}, {"2024-02-29", -12, "2023-02-28"}, {"2024-02-29", 1, "2024-03-29"}, {"2023-02-28", 1, "2023-03-28"},
		{"2026-03-31", 1, "2026-04-30"}, {"2026-05-31", -1, "2026-04-30"}, {"2026-12-31", 2, "2027-02-28"}, {"2026-07-31", 1, "2026-08-31"}, {"2026-12-31", 1, "2027-01-31"}, {"2026-01-31", -1, "2025-12-31"},
		{"0001-01-31", 1, "0001-02-28"}, {"0001-01-31", 119987, "9999-12-31"}, {"9999-12-31", -119987, "0001-01-31"}, {"9999-12-31", -119986, "0001-02-28"}, {"0002-01-01", -12, "0001-01-01"}, {"9998-12-31", 12, "9999-12-31"},
	} {
		day, _ := date.Parse(c.from)
		if got, e := date.AddMonths(day, c.n); date.Print(got) != c.to || e != api.OK {
			t.Errorf("%d months after %s: %s, %v, want %s", c.n, c.from, date.Print(got), e, c.to)
		}
	}
}

// P8.5: each error, and which one is returned if both apply.
func TestAddMonthsErrors(t *testing.T) {
	wrong := []int{math.MinInt, -146097, -31, -1, 3652059, 3652060, math.MaxInt32, math.MaxInt}
	for _, n := range []int{math.MinInt, math.MinInt + 1, math.MinInt32, -200002, -200001, 200001, 200002, math.MaxInt32, math.MaxInt - 1, math.MaxInt} {
		for _, day := range append([]int{0, 730178, 3652058}, wrong...) {
			if got, e := date.AddMonths(day, n); got != 0 || e != api.ErrLimit {
				t.Errorf("AddMonths(%d, %d): %d, %v", day, n, got, e)
			}
		}
	}
	for _, day := range wrong {
		for _, n := range []int{-200000, -12, -1, 0, 1, 12, 119988, 200000} {
			if got, e := date.AddMonths(day, n); got != 0 || e != api.ErrRange {
				t.Errorf("AddMonths(%d, %d): %d, %v", day, n, got, e)
			}
		}
	}
	for _, c := range []struct{ day, n int }{{0, -1}, {0, -12}, {0, -13}, {30, -1}, {364, -12}, {365, -13}, {0, 119988}, {0, -200000}, {0, 200000}, {api.MaxDay, 1}, {api.MaxDay, 12}, {api.MaxDay, 13}, {api.MaxDay - 365, 13}, {api.MaxDay, -119988}, {api.MaxDay, -200000}, {api.MaxDay, 200000}} {
		if got, e := date.AddMonths(c.day, c.n); got != 0 || e != api.ErrRange {
			t.Errorf("AddMonths(%d, %d): %d, %v", c.day, c.n, got, e)
		}
	}
}

// P8.9: some months later, no day comes before one that was not after it.
func TestMonthsKeepTheOrderOfDays(t *testing.T) {
	for _, n := range []int{-1201, -25, -12, -1, 0, 1, 6, 11, 12, 13, 1201} {
		before := 0
		for day := range api.MaxDay + 1 {
			got, e := date.AddMonths(day, n)
			if e == api.OK && got < before {
				t.Fatalf("AddMonths(%d, %d): %d after %d", day, n, got, before)
			}
			if e == api.OK {
				before = got
			}
		}
		if before == 0 {
			t.Errorf("no result for %d months", n)
		}
	}
}

// P8.9: months that are added and subtracted again, and months that are added one after the other.
func TestMonthsOneAfterTheOther(t *testing.T) {
	random := rand.New(rand.NewSource(8))
	checked := 0
	for range 200000 {
		day := random.Intn(api.MaxDay + 1)
		a, b := random.Intn(120001)-60000, random.Intn(120001)-60000
		if d, _ := date.Of(day); d.Day > 28 {
			continue
		}
		there, e := date.AddMonths(day, a)
		if e != api.OK {
			continue
		}
		if back, e := date.AddMonths(there, -a); back != day || e != api.OK {
			t.Fatalf("%d months after day %d is %d, and before that %d, %v", a, day, there, back, e)
		}
		further, e := date.AddMonths(there, b)
		if whole, f := date.AddMonths(day, a+b); whole != further || e != f {
			t.Fatalf("%d months after day %d: %d, %v; %d of them after the others: %d, %v", a+b, day, whole, f, b, further, e)
		}
		checked++
	}
	if checked < 50000 {
		t.Errorf("%d sums were checked", checked)
	}
}

// P8.7: the same date 400 years later.
func TestFourHundredYears(t *testing.T) {
	for day := 0; day+146097 <= api.MaxDay; day++ {
		d, _ := date.Of(day)
		d.Year += 400
		if got, e := date.Day(d); got != day+146097 || e != api.OK || date.Weekday(got) != date.Weekday(day) {
			t.Fatalf("400 years after day %d: %d, %v, weekdays %d and %d", day, got, e, date.Weekday(got), date.Weekday(day))
		}
	}
}

// P8.10: days in any order, as keys of a tree, are found in their order.
func TestDatesAsKeys(t *testing.T) {
	random := rand.New(rand.NewSource(10))
	calendar, here := tree.New(), map[int]bool{}
	for i := range 5000 {
		day := random.Intn(api.MaxDay + 1)
		if i%2 == 0 {
			day = 3650000 + random.Intn(2059)
		}
		calendar, here[day] = calendar.Put(date.Print(day), ""), true
	}
	before := -1
	for _, pair := range calendar.Range("", "") {
		day, e := date.Parse(pair.Key)
		if e != api.OK || day <= before || !here[day] {
			t.Fatalf("the key %q behind day %d: day %d, %v", pair.Key, before, day, e)
		}
		before = day
	}
	if calendar.Len() != len(here) {
		t.Errorf("%d keys of %d days", calendar.Len(), len(here))
	}
	last := -1
	for day := 3650000; day <= api.MaxDay; day++ {
		if here[day] {
			last = day
		}
		if pair, ok := calendar.Floor(date.Print(day)); last >= 0 && (!ok || pair.Key != date.Print(last)) {
			t.Fatalf("the last key up to day %d: %q, want day %d", day, pair.Key, last)
		}
		if l := calendar.Range(date.Print(day), date.Print(day+1)); day < api.MaxDay && (len(l) == 1) != here[day] {
			t.Fatalf("the keys of day %d: %v", day, l)
		}
	}
}
