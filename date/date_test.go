package date_test

import (
	"math"
	"regexp"
	"strconv"
	"strings"
	"testing"
	"time"

	"rollbook/api"
	"rollbook/date"
)

// first is day 0 in the standard library.
var first = time.Date(1, 1, 1, 0, 0, 0, 0, time.UTC)

// years are years around each kind of leap year and around the limits, and extreme numbers.
var years = []int{
	math.MinInt, math.MinInt + 1, -10000, -401, -400, -399, -101, -100, -4, -1, 0, 1, 2, 3, 4, 5, 96, 99, 100, 101, 104, 200, 300, 399, 400, 401, 1582, 1583, 1600, 1700, 1800, 1896, 1899, 1900, 1901, 1904, 1996, 1999, 2000, 2001, 2004, 2023, 2024, 2025, 2026, 2100, 2400, 9996, 9998, 9999, 10000, 10001, 10004, 20000, math.MaxInt - 1, math.MaxInt,
}

// small are small numbers of both signs, and extreme ones.
var small = append(numbers(-20, 50), -math.MaxInt32, math.MaxInt32, math.MinInt, math.MinInt+1, math.MaxInt-1, math.MaxInt)

// numbers returns the numbers from one to another.
func numbers(from, until int) []int {
	var l []int
	for n := from; n <= until; n++ {
		l = append(l, n)
	}
	return l
}

// lengthOf returns the length of a month, 0 if there is no such month, written without the package.
func lengthOf(year, month int) int {
	switch month {
	case 1, 3, 5, 7, 8, 10, 12:
		return 31
	case 4, 6, 9, 11:
		return 30
	case 2:
		if year%4 != 0 || year%100 == 0 && year%400 != 0 {
			return 28
		}
		return 29
	}
	return 0
}

// valid reports whether a date is valid.
func valid(d api.Date) bool {
	return 1 <= d.Year && d.Year <= 9999 && 1 <= d.Month && d.Month <= 12 && 1 <= d.Day && d.Day <= lengthOf(d.Year, d.Month)
}

// following returns the next day's date.
func following(d api.Date) api.Date {
	d.Day++
	if d.Day > lengthOf(d.Year, d.Month) {
		d.Month, d.Day = d.Month+1, 1
	}
	if d.Month > 12 {
		d.Year, d.Month = d.Year+1, 1
	}
	return d
}

// printed returns a date with four, two and two digits.
func printed(d api.Date) string {
	b := []byte("0000-00-00")
	for _, part := range []struct{ end, n int }{{3, d.Year}, {6, d.Month}, {9, d.Day}} {
		for i, n := part.end, part.n; n > 0; i, n = i-1, n/10 {
			b[i] += byte(n % 10)
		}
	}
	return string(b)
}

// dayOf returns the day of a valid date.
func dayOf(t *testing.T, year, month, day int) int {
	t.Helper()
	n, e := date.Day(api.Date{Year: year, Month: month, Day: day})
	if e != api.OK {
		t.Fatalf("Day of %d-%d-%d: %v", year, month, day, e)
	}
	return n
}

// P8.1, P8.2, P8.3, P8.6, P8.7, P8.10: all days, one after the other.
func TestAllDays(t *testing.T) {
	d, before, weekday := api.Date{Year: 1, Month: 1, Day: 1}, "", 0
	for day := range 3652059 {
		if got, e := date.Of(day); got != d || e != api.OK {
			t.Fatalf("Of(%d): %v, %v, want %v", day, got, e, d)
		}
		if got, e := date.Day(d); got != day || e != api.OK || date.Check(d) != api.OK {
			t.Fatalf("Day(%v): %d, %v, want %d", d, got, e, day)
		}
		if got := date.Weekday(day); got != weekday {
			t.Fatalf("Weekday(%d): %d, want %d", day, got, weekday)
		}
		s := date.Print(day)
		if s != printed(d) || s <= before {
			t.Fatalf("Print(%d): %q after %q, want %q", day, s, before, printed(d))
		}
		if got, e := date.Parse(s); got != day || e != api.OK {
			t.Fatalf("Parse(%q): %d, %v, want %d", s, got, e, day)
		}
		d, before, weekday = following(d), s, (weekday+1)%7
	}
	if want := (api.Date{Year: 10000, Month: 1, Day: 1}); d != want {
		t.Errorf("the day after the last one: %v", d)
	}
}

// P8.1, P8.2, P8.3, P8.6: many days, against the standard library.
func TestDaysOfTheLibrary(t *testing.T) {
	for day := 0; day <= api.MaxDay; day += 11 {
		want := first.AddDate(0, 0, day)
		d, _ := date.Of(day)
		if d.Year != want.Year() || d.Month != int(want.Month()) || d.Day != want.Day() || date.Print(day) != want.Format(time.DateOnly) {
			t.Fatalf("day %d: %v, %q, want %v", day, d, date.Print(day), want)
		}
		if date.Weekday(day) != (int(want.Weekday())+6)%7 {
			t.Fatalf("weekday of day %d: %d", day, date.Weekday(day))
		}
	}
}

// P8.1 to P8.6: the examples of the chapter.
func TestExamples(t *testing.T) {
	for _, c := range []struct {
		s            string
		day, weekday int
	}{{"0001-01-01", 0, 0}, {"2000-02-29", 730178, 1}, {"9999-12-31", 3652058, 4}} {
		if got := date.Print(c.day); got != c.s || date.Weekday(c.day) != c.weekday {
			t.Errorf("day %d: %q, weekday %d", c.day, got, date.Weekday(c.day))
		}
		if got, e := date.Parse(c.s); got != c.day || e != api.OK {
			t.Errorf("Parse(%q): %d, %v", c.s, got, e)
		}
	}
	if got, e := date.Easter(2026); date.Print(got) != "2026-04-05" || e != api.OK {
		t.Errorf("Easter(2026): %d, %v", got, e)
	}
	for _, c := range []struct {
		from string
		n    int
		to   string
	}{{"2026-01-31", 1, "2026-02-28"}, {"2024-03-31", -13, "2023-02-28"}} {
		day, _ := date.Parse(c.from)
		if got, e := date.AddMonths(day, c.n); date.Print(got) != c.to || e != api.OK {
			t.Errorf("%d months after %s: %d, %v", c.n, c.from, got, e)
		}
	}
	for s, want := range map[string]api.Errno{"2026-02-29": api.ErrRange, "2026-2-9": api.ErrForm} {
		if got, e := date.Parse(s); got != 0 || e != want {
			t.Errorf("Parse(%q): %d, %v", s, got, e)
		}
	}
}

// P8.1: valid and invalid dates.
func TestCheck(t *testing.T) {
	accepted := 0
	for _, year := range years {
		for _, month := range small {
			for _, day := range small {
				d := api.Date{Year: year, Month: month, Day: day}
				want := api.ErrRange
				if valid(d) {
					want = api.OK
					accepted++
				}
				if got := date.Check(d); got != want {
					t.Fatalf("Check(%v): %v", d, got)
				}
				n, e := date.Day(d)
				if e != want || e != api.OK && n != 0 {
					t.Fatalf("Day(%v): %d, %v", d, n, e)
				}
			}
		}
	}
	if accepted < 10000 {
		t.Errorf("%d valid dates", accepted)
	}
}

// P8.2, P8.6: numbers that are no days.
func TestOtherDays(t *testing.T) {
	for _, day := range []int{math.MinInt, math.MinInt32, -146097, -366, -365, -2, -1, 3652059, 3652060, 3652424, math.MaxInt32, math.MaxInt - 1, math.MaxInt} {
		if d, e := date.Of(day); d != (api.Date{}) || e != api.ErrRange {
			t.Errorf("Of(%d): %v, %v", day, d, e)
		}
		if s := date.Print(day); s != "" {
			t.Errorf("Print(%d): %q", day, s)
		}
	}
}

// P8.3: weekdays of all numbers, also of those that are no days.
func TestWeekday(t *testing.T) {
	for _, from := range []int{-7000, math.MinInt32 / 7 * 7, math.MaxInt32 / 7 * 7, 3652054} {
		for i := range 14000 {
			if got := date.Weekday(from + i); got != i%7 {
				t.Fatalf("Weekday(%d): %d, want %d", from+i, got, i%7)
			}
		}
	}
	// 2^63 has the remainder 1.
	for day, want := range map[int]int{-1: 6, -7: 0, -8: 6, math.MaxInt64: 0, math.MaxInt64 - 1: 6, math.MaxInt64 - 6: 1, math.MinInt64: 6, math.MinInt64 + 1: 0, math.MinInt64 + 2: 1} {
		if got := date.Weekday(day); got != want {
			t.Errorf("Weekday(%d): %d, want %d", day, got, want)
		}
	}
}

// P8.3: leap years of all numbers, also of those that are no years.
func TestLeap(t *testing.T) {
	leap := map[int]bool{}
	for i := 0; i < 400; i += 4 {
		leap[i] = i != 100 && i != 200 && i != 300
	}
	for i := range 24000 {
		if year := i - 12000; date.Leap(year) != leap[i%400] {
			t.Errorf("Leap(%d): %v", year, date.Leap(year))
		}
	}
	// 2^63 is 9223372036854775808.
	for year, want := range map[int]bool{math.MinInt64: true, math.MinInt64 + 1: false, math.MinInt64 + 2: false, math.MinInt64 + 8: false, math.MinInt64 + 208: true, math.MaxInt64: false, math.MaxInt64 - 1: false, math.MaxInt64 - 3: true, math.MaxInt64 - 7: false, math.MaxInt64 - 207: true} {
		if got := date.Leap(year); got != want {
			t.Errorf("Leap(%d): %v", year, got)
		}
	}
}

// P8.3: lengths of months in all years, and of numbers that are no months.
func TestLength(t *testing.T) {
	for _, year := range append(numbers(-500, 2500), years...) {
		for _, month := range small {
			if got, want := date.Length(year, month), lengthOf(year, month); got != want {
				t.Fatalf("Length(%d, %d): %d, want %d", year, month, got, want)
			}
		}
	}
}

// P8.4: known dates, among them the earliest and the latest ones, and those for which step 2 changes E.
func TestKnownEasters(t *testing.T) {
	for _, want := range []string{
		"1583-04-10", "1598-03-22", "1600-04-02", "1609-04-19", "1666-04-25", "1700-04-11", "1761-03-22", "1777-03-30", "1800-04-13", "1818-03-22", "1886-04-25", "1900-04-15", "1943-04-25", "1954-04-18", "1981-04-19", "1999-04-04", "2000-04-23", "2008-03-23", "2011-04-24", "2019-04-21", "2024-03-31", "2025-04-20", "2026-04-05", "2027-03-28", "2038-04-25", "2049-04-18", "2076-04-19", "2285-03-22",
	} {
		day, _ := date.Parse(want)
		d, _ := date.Of(day)
		if got, e := date.Easter(d.Year); got != day || e != api.OK {
			t.Errorf("Easter(%d): %s, %v, want %s", d.Year, date.Print(got), e, want)
		}
	}
}

// easterOf returns the month and the day of Easter Sunday by the algorithm that Butcher published.
func easterOf(year int) (month, day int) {
	a, b, c := year%19, year/100, year%100
	h := (19*a + b - b/4 - (b-(b+8)/25+1)/3 + 15) % 30
	l := (32 + 2*(b%4) + 2*(c/4) - h - c%4) % 7
	n := h + l - 7*((a+11*h+22*l)/451) + 114
	return n / 31, n%31 + 1
}

// P8.4, P8.8: all years, against another algorithm.
func TestAllEasters(t *testing.T) {
	earliest, latest := 0, 0
	for year := 1583; year <= 9999; year++ {
		month, day := easterOf(year)
		got, e := date.Easter(year)
		if got != dayOf(t, year, month, day) || e != api.OK {
			t.Errorf("Easter(%d): %s, %v, want %d-%d", year, date.Print(got), e, month, day)
		}
		first, last := dayOf(t, year, 3, 22), dayOf(t, year, 4, 25)
		if got < first || got > last || date.Weekday(got) != 6 {
			t.Errorf("Easter(%d): %s, weekday %d", year, date.Print(got), date.Weekday(got))
		}
		if got == first {
			earliest++
		}
		if got == last {
			latest++
		}
	}
	if earliest == 0 || latest == 0 {
		t.Errorf("%d years with the earliest day, %d with the latest one", earliest, latest)
	}
}

// P8.4: years without Easter.
func TestOtherEasters(t *testing.T) {
	for _, year := range []int{math.MinInt, -2026, -1, 0, 1, 4, 325, 1500, 1581, 1582, 10000, 10001, 12026, math.MaxInt32, math.MaxInt} {
		if got, e := date.Easter(year); got != 0 || e != api.ErrRange {
			t.Errorf("Easter(%d): %d, %v", year, got, e)
		}
	}
}

// shape matches texts that consist of four, two and two digits, separated by -.
var shape = regexp.MustCompile(`\A[0-9]{4}-[0-9]{2}-[0-9]{2}\z`)

// parsed returns what Parse has to return, with the help of the standard library.
func parsed(s string) (int, api.Errno) {
	if !shape.MatchString(s) {
		return 0, api.ErrForm
	}
	when, err := time.Parse(time.DateOnly, s)
	if err != nil || when.Year() == 0 {
		return 0, api.ErrRange
	}
	return int((when.Unix() - first.Unix()) / 86400), api.OK
}

// checkParse checks what Parse returns for a text of any form.
func checkParse(t *testing.T, s string) {
	t.Helper()
	day, want := parsed(s)
	if got, e := date.Parse(s); got != day || e != want {
		t.Errorf("Parse(%q): %d, %v, want %d, %v", s, got, e, day, want)
	}
}

// P8.6: all months and days with two digits, in years of each kind.
func TestParseAllMonthsAndDays(t *testing.T) {
	accepted := 0
	for _, year := range []string{"0000", "0001", "0004", "0100", "0400", "1900", "2000", "2023", "2024", "9999"} {
		for i := range 10000 {
			digits := strconv.Itoa(10000 + i)
			s := year + "-" + digits[1:3] + "-" + digits[3:]
			checkParse(t, s)
			if _, e := date.Parse(s); e == api.OK {
				accepted++
			}
		}
	}
	if accepted != 9*365+4 {
		t.Errorf("%d dates are accepted", accepted)
	}
}

// P8.6: other bytes in each place, places left out, and further bytes in each place.
func TestParseOfChangedTexts(t *testing.T) {
	const s = "2024-02-28"
	accepted := 0
	for i := range len(s) + 1 {
		for b := range 256 {
			other := string([]byte{byte(b)})
			checkParse(t, s[:i]+other+s[i:])
			if i < len(s) {
				checkParse(t, s[:i]+other+s[i+1:])
				if _, e := date.Parse(s[:i] + other + s[i+1:]); e == api.OK {
					accepted++
				}
			}
		}
		for j := i; j <= len(s); j++ {
			checkParse(t, s[:i]+s[j:])
			checkParse(t, s[i:j])
		}
	}
	// The years 0024 to 9024, 2024 to 2924, 2004 to 2094 and 2020 to 2029, the months 02 and 12, and 01 to 09, the days 08, 18 and 28, and 20 to 29; and twice the separator itself.
	if accepted != 4*10+2+9+3+10+2 {
		t.Errorf("%d changed texts are accepted", accepted)
	}
}

// P8.6: texts that are no dates; those without the form of a date are not checked further.
func TestParseErrors(t *testing.T) {
	for _, s := range []string{
		"", "-", "--", "---", "----------", "2026", "2026-", "2026-11", "2026-11-", "20261120", "2026-1120", "202611-20", "2026/11/20", "2026-11/20", "2026.11.20",
		"2026-11-2", "2026-1-20", "226-11-20", "2026-11-020", "2026-011-20", "02026-11-20", "10000-01-01", "2026--11-20", "2026-11--20", "-2026-11-20", "2026-11-20-", "2026-11-20-01",
		"20-2611-20", "202-611-20", "20261-1-20", "2026-1-120", "2026-111-2", "202-1-11-20", "11-20-2026", "20-11-2026",
		" 2026-11-20", "2026-11-20 ", "2026-11-20\n", "2026-11-20\x00", "2026-11- 2", "2026- 1-20", "2026-11-+2", "2026-+1-20", "+026-11-20", "-026-11-20", "2026-11--2", "2026--1-20", "2_26-11-20", "0x26-11-20", "2026-1e-20", "2026-11-2.", "@2026-11-20",
		"2026-13-1", "2026-1-32", "0-13-32", "9999-99-9", "0000-0-00", "2026-13-3x", "x000-00-00", "0000-00-0x", "00000-00-00",
		"２０２６-11-20", "2026\u201011\u201020", "٢٠٢٦-11-20", "202६-11-20", "2026-11-20\xff", "\xff\xff\xff\xff-\xff\xff-\xff\xff",
		"18446744073709553642-11-20", "2026-18446744073709551627-20", strings.Repeat("9", 1<<20), "2026-11-" + strings.Repeat("0", 1<<20) + "20", strings.Repeat("2026-11-20", 1000), strings.Repeat("-", 1<<16),
	} {
		if got, e := date.Parse(s); got != 0 || e != api.ErrForm {
			t.Errorf("Parse(%.40q): %d, %v", s, got, e)
		}
	}
	for _, s := range []string{"0000-00-00", "0000-01-01", "0000-02-29", "0000-12-31", "2026-00-01", "2026-01-00", "2026-01-32", "2026-02-29", "2026-04-31", "2026-13-01", "2026-99-99", "1900-02-29", "2000-02-30", "9999-12-32", "9999-13-01", "9999-99-99"} {
		if got, e := date.Parse(s); got != 0 || e != api.ErrRange {
			t.Errorf("Parse(%q): %d, %v", s, got, e)
		}
	}
}
