package holiday_test

import (
	"cmp"
	"math"
	"slices"
	"testing"
	"time"

	"rollbook/api"
	"rollbook/date"
	"rollbook/holiday"
)

// first is day 0 in the standard library.
var first = time.Date(1, 1, 1, 0, 0, 0, 0, time.UTC)

// extremes are numbers that no field may have.
var extremes = []int{math.MinInt, math.MinInt + 1, math.MinInt32, -10000, math.MaxInt32, math.MaxInt - 1, math.MaxInt}

// at returns a date in the standard library.
func at(year, month, day int) time.Time {
	return time.Date(year, time.Month(month), day, 0, 0, 0, 0, time.UTC)
}

// nominal returns the nominal day of a rule, with the help of the standard library. It looks at all days of a month.
func nominal(r api.Holiday, year int) (time.Time, bool) {
	if r.Kind == api.HolEaster {
		easter, e := date.Easter(year)
		return first.AddDate(0, 0, easter+r.Offset), e == api.OK
	}
	var found []time.Time
	for when := at(year, r.Month, 1); int(when.Month()) == r.Month; when = when.AddDate(0, 0, 1) {
		if r.Kind == api.HolFixed && when.Day() == r.Day || r.Kind != api.HolFixed && (int(when.Weekday())+6)%7 == r.Weekday {
			found = append(found, when)
		}
	}
	n := map[int]int{api.HolFixed: 1, api.HolNth: r.Nth, api.HolLast: len(found)}[r.Kind]
	if n > len(found) {
		return first, false
	}
	return found[max(n, 1)-1], true
}

// keptOn returns the kept day of a rule in a year, -1 if it is not kept, with the help of the standard library.
func keptOn(r api.Holiday, year int) int {
	if year < r.First || year > r.Last {
		return -1
	}
	when, ok := nominal(r, year)
	if !ok {
		return -1
	}
	switch {
	case r.Move == api.MoveNear && when.Weekday() == time.Saturday:
		when = when.AddDate(0, 0, -1)
	case r.Move != api.MoveNone:
		for when.Weekday() == time.Saturday || when.Weekday() == time.Sunday {
			when = when.AddDate(0, 0, 1)
		}
	}
	return int((when.Unix() - first.Unix()) / 86400)
}

// namedOf returns what Of has to return.
func namedOf(l []api.Holiday, year int) []api.Named {
	var named []api.Named
	for i, r := range l {
		if day := keptOn(r, year); day >= 0 {
			named = append(named, api.Named{Day: day, Rule: i})
		}
	}
	slices.SortFunc(named, func(a, b api.Named) int { return cmp.Or(a.Day-b.Day, a.Rule-b.Rule) })
	return named
}

// daysOf returns the days on which holidays of the years from one to another are kept.
func daysOf(l []api.Holiday, from, until int) map[int]bool {
	kept := map[int]bool{}
	for year := from; year <= until; year++ {
		for _, n := range namedOf(l, year) {
			kept[n.Day] = true
		}
	}
	return kept
}

// always returns a rule that is in force in all years.
func always(r api.Holiday) api.Holiday {
	r.First, r.Last = 1, 9999
	return r
}

// allRules returns all rules that differ in more than fields that they do not use, in force in all years.
func allRules() []api.Holiday {
	var l []api.Holiday
	for move := range 3 {
		for month := 1; month <= 12; month++ {
			for day := 1; day <= 31; day++ {
				l = append(l, always(api.Holiday{Kind: api.HolFixed, Month: month, Day: day, Move: move}))
			}
			for weekday := range 7 {
				for nth := 1; nth <= 5; nth++ {
					l = append(l, always(api.Holiday{Kind: api.HolNth, Month: month, Weekday: weekday, Nth: nth, Move: move}))
				}
				l = append(l, always(api.Holiday{Kind: api.HolLast, Month: month, Weekday: weekday, Move: move}))
			}
		}
		for offset := -100; offset <= 100; offset++ {
			l = append(l, always(api.Holiday{Kind: api.HolEaster, Offset: offset, Move: move}))
		}
	}
	return l
}

// parse returns the day of a printed date.
func parse(t *testing.T, s string) int {
	t.Helper()
	day, e := date.Parse(s)
	if e != api.OK {
		t.Fatalf("Parse(%q): %v", s, e)
	}
	return day
}

// P10.2, P10.3: rules on known days, among them the examples of the chapter.
func TestKnownDays(t *testing.T) {
	fixed := func(month, day, move int) api.Holiday {
		return always(api.Holiday{Kind: api.HolFixed, Month: month, Day: day, Move: move})
	}
	nth := func(month, weekday, n, move int) api.Holiday {
		return always(api.Holiday{Kind: api.HolNth, Month: month, Weekday: weekday, Nth: n, Move: move})
	}
	last := func(month, weekday, move int) api.Holiday {
		return always(api.Holiday{Kind: api.HolLast, Month: month, Weekday: weekday, Move: move})
	}
	easter := func(offset, move int) api.Holiday {
		return always(api.Holiday{Kind: api.HolEaster, Offset: offset, Move: move})
	}
	for i, c := range []struct {
		r    api.Holiday
		year int
		want string
	}{
		{nth(11, 3, 4, 0), 2026, "2026-11-26"}, {last(5, 0, 0), 2026, "2026-05-25"}, {easter(1, 0), 2026, "2026-04-06"},
		{fixed(7, 4, api.MoveNear), 2026, "2026-07-03"}, {fixed(7, 4, api.MoveNext), 2026, "2026-07-06"}, {fixed(7, 4, api.MoveNone), 2026, "2026-07-04"},
		{fixed(7, 5, api.MoveNear), 2026, "2026-07-06"}, {fixed(7, 5, api.MoveNext), 2026, "2026-07-06"}, {fixed(7, 5, api.MoveNone), 2026, "2026-07-05"},
		{fixed(7, 3, api.MoveNear), 2026, "2026-07-03"}, {fixed(7, 6, api.MoveNext), 2026, "2026-07-06"},
		{fixed(1, 1, api.MoveNear), 2028, "2027-12-31"}, {fixed(1, 1, api.MoveNear), 2027, "2027-01-01"}, {fixed(1, 1, api.MoveNext), 2028, "2028-01-03"},
		{fixed(12, 31, api.MoveNext), 2022, "2023-01-02"}, {fixed(12, 31, api.MoveNext), 2023, "2024-01-01"}, {fixed(12, 31, api.MoveNear), 2023, "2024-01-01"}, {fixed(12, 31, api.MoveNear), 2022, "2022-12-30"},
		{last(12, 5, api.MoveNext), 2022, "2023-01-02"}, {nth(1, 5, 1, api.MoveNear), 2028, "2027-12-31"},
		{fixed(2, 29, 0), 2024, "2024-02-29"}, {fixed(2, 29, 0), 2026, ""}, {fixed(2, 29, 0), 1900, ""}, {fixed(2, 29, 0), 2000, "2000-02-29"}, {fixed(2, 30, 0), 2024, ""}, {fixed(4, 31, 0), 2026, ""}, {fixed(11, 31, api.MoveNext), 2026, ""},
		{nth(2, 0, 5, 0), 2026, ""}, {nth(2, 3, 5, 0), 2024, "2024-02-29"}, {nth(2, 3, 5, 0), 2025, ""}, {nth(3, 0, 5, 0), 2026, "2026-03-30"}, {nth(3, 2, 5, 0), 2026, ""}, {nth(4, 3, 5, 0), 2026, "2026-04-30"},
		{nth(2, 6, 1, 0), 2026, "2026-02-01"}, {nth(2, 5, 4, 0), 2026, "2026-02-28"}, {last(2, 5, 0), 2026, "2026-02-28"}, {last(2, 6, 0), 2026, "2026-02-22"}, {last(2, 3, 0), 2024, "2024-02-29"},
		{easter(0, 0), 2026, "2026-04-05"}, {easter(-2, 0), 2026, "2026-04-03"}, {easter(-1, api.MoveNear), 2026, "2026-04-03"}, {easter(-1, api.MoveNext), 2026, "2026-04-06"}, {easter(0, api.MoveNear), 2026, "2026-04-06"}, {easter(49, 0), 2026, "2026-05-24"}, {easter(39, 0), 2026, "2026-05-14"},
		{easter(-100, 0), 1818, "1817-12-12"}, {easter(-99, api.MoveNear), 1818, "1817-12-12"}, {easter(100, 0), 1943, "1943-08-03"}, {easter(0, 0), 1583, "1583-04-10"}, {easter(0, 0), 1582, ""}, {easter(100, 0), 1, ""},
		{fixed(1, 1, api.MoveNear), 1, "0001-01-01"}, {fixed(1, 6, api.MoveNear), 1, "0001-01-05"}, {fixed(12, 31, api.MoveNext), 9999, "9999-12-31"}, {nth(12, 4, 5, 0), 9999, "9999-12-31"}, {last(12, 6, api.MoveNext), 9999, "9999-12-27"},
	} {
		var want []api.Named
		if c.want != "" {
			want = []api.Named{{Day: parse(t, c.want)}}
		}
		l := []api.Holiday{c.r}
		if got := holiday.Of(l, c.year); holiday.Check(l) != api.OK || !slices.Equal(got, want) {
			t.Errorf("%d: Of(%v, %d): %v, want %v", i, c.r, c.year, got, want)
		}
		for _, n := range want {
			if !holiday.Is(l, n.Day) || !slices.Equal(holiday.Between(l, n.Day, n.Day), []int{n.Day}) {
				t.Errorf("%d: %v is not kept on %s", i, c.r, c.want)
			}
		}
	}
}

// P10.2: a holiday that moves to another year is one of the year of its nominal day alone.
func TestMovesToAnotherYear(t *testing.T) {
	for _, c := range []struct {
		r    api.Holiday
		year int
		day  string
	}{
		{api.Holiday{Kind: api.HolFixed, Month: 1, Day: 1, Move: api.MoveNear}, 2028, "2027-12-31"},
		{api.Holiday{Kind: api.HolFixed, Month: 12, Day: 31, Move: api.MoveNext}, 2022, "2023-01-02"},
		{api.Holiday{Kind: api.HolEaster, Offset: -100}, 1818, "1817-12-12"},
	} {
		day := parse(t, c.day)
		for _, span := range [][2]int{{1, 9999}, {c.year, c.year}, {c.year - 1, c.year - 1}, {c.year + 1, c.year + 1}, {1, c.year}, {c.year, 9999}, {1, c.year - 1}, {c.year + 1, 9999}} {
			r := c.r
			r.First, r.Last = span[0], span[1]
			l, want := []api.Holiday{r}, span[0] <= c.year && c.year <= span[1]
			for year := c.year - 2; year <= c.year+2; year++ {
				if got := slices.Contains(holiday.Of(l, year), api.Named{Day: day}); got != (want && year == c.year) {
					t.Errorf("%s is in Of(%v, %d): %v", c.day, r, year, got)
				}
			}
			if holiday.Is(l, day) != want || len(holiday.Between(l, day, day)) > 0 != want {
				t.Errorf("%v is kept on %s: %v", r, c.day, !want)
			}
		}
	}
}

// fits reports whether a rule is valid, written from the table of the chapter.
func fits(r api.Holiday) bool {
	month, weekday := 1 <= r.Month && r.Month <= 12, 0 <= r.Weekday && r.Weekday <= 6
	used := map[int]bool{
		1: month && 1 <= r.Day && r.Day <= 31,
		2: month && weekday && 1 <= r.Nth && r.Nth <= 5,
		3: month && weekday,
		4: -100 <= r.Offset && r.Offset <= 100,
	}
	return used[r.Kind] && (r.Move == 0 || r.Move == 1 || r.Move == 2) && 1 <= r.First && r.First <= r.Last && r.Last <= 9999
}

// fields returns the fields of a rule, and values of each: those at its limits, beside them, and far away.
func fields(r *api.Holiday) ([]*int, [][]int) {
	p := []*int{&r.Kind, &r.Month, &r.Day, &r.Weekday, &r.Nth, &r.Offset, &r.Move, &r.First, &r.Last}
	v := [][]int{{-1, 0, 1, 2, 3, 4, 5}, {-1, 0, 1, 12, 13}, {-1, 0, 1, 31, 32}, {-1, 0, 6, 7}, {-1, 0, 1, 5, 6}, {-101, -100, 0, 100, 101}, {-1, 0, 1, 2, 3}, {-1, 0, 1, 2, 2026, 9998, 9999, 10000}, {-1, 0, 1, 2, 2025, 2026, 2027, 9999, 10000}}
	for i := range v {
		v[i] = append(v[i], extremes...)
	}
	return p, v
}

// P10.1: each pair of values of two fields of rules of each kind; fields that a kind does not use may have any value.
func TestCheckPairs(t *testing.T) {
	accepted, refused := 0, 0
	for kind := 1; kind <= 4; kind++ {
		for i := range 9 {
			for j := range i {
				r := api.Holiday{Kind: kind, Month: 7, Day: 4, Weekday: 3, Nth: 2, Offset: 60, Move: 1, First: 1900, Last: 2100}
				p, v := fields(&r)
				for _, *p[i] = range v[i] {
					for _, *p[j] = range v[j] {
						want := api.ErrRange
						if fits(r) {
							want = api.OK
							accepted++
						} else {
							refused++
						}
						if got := holiday.Check([]api.Holiday{r}); got != want {
							t.Fatalf("Check(%v): %v", r, got)
						}
					}
				}
			}
		}
	}
	if accepted < 1000 || refused < 1000 {
		t.Errorf("%d rules accepted, %d refused", accepted, refused)
	}
}

// P10.1: each value of all the fields that a kind uses.
func TestCheckAllRules(t *testing.T) {
	for _, r := range allRules() {
		if e := holiday.Check([]api.Holiday{r}); e != api.OK {
			t.Fatalf("Check(%v): %v", r, e)
		}
	}
}

// P10.1: the number of rules, and an invalid one at each place.
func TestCheckLists(t *testing.T) {
	good, bad := always(api.Holiday{Kind: api.HolEaster}), api.Holiday{}
	for n, want := range map[int]api.Errno{0: api.OK, 1: api.OK, 99: api.OK, 100: api.OK, 101: api.ErrLimit, 102: api.ErrLimit, 1000: api.ErrLimit} {
		l := slices.Repeat([]api.Holiday{good}, n)
		if got := holiday.Check(l); got != want {
			t.Errorf("Check of %d rules: %v", n, got)
		}
		if want == api.OK {
			want = api.ErrRange
		}
		for i := range l {
			l[i] = bad
			if got := holiday.Check(l); got != want {
				t.Errorf("Check of %d rules, the one at %d is not valid: %v", n, i, got)
			}
			l[i] = good
		}
	}
	if got := holiday.Check(nil); got != api.OK {
		t.Errorf("Check(nil): %v", got)
	}
}

// P10.2: no rules are kept in other years, not even in those next to the years of a rule.
func TestOtherYears(t *testing.T) {
	rules := allRules()
	for from := 0; from < len(rules); from += 100 {
		l := slices.Clone(rules[from:min(from+100, len(rules))])
		for _, year := range append([]int{-2026, -400, -1, 0, 10000, 10001, 10400}, extremes...) {
			if got := holiday.Of(l, year); len(got) != 0 {
				t.Fatalf("Of(%v.., %d): %v", l[0], year, got)
			}
		}
		for i := range l {
			l[i].First, l[i].Last = 1990, 1990+i%3
		}
		for year := 1985; year < 1997; year++ {
			if got, want := holiday.Of(l, year), namedOf(l, year); !slices.Equal(got, want) {
				t.Fatalf("Of(%v.., %d): %v, want %v", l[0], year, got, want)
			}
		}
	}
}

// P10.3: numbers that are no days.
func TestNoDays(t *testing.T) {
	rules := allRules()
	for from := 0; from < len(rules); from += 100 {
		l := rules[from:min(from+100, len(rules))]
		for _, day := range append([]int{-146097, -366, -365, -7, -2, -1, 3652059, 3652060, 3652065, 3652424, 3652059 + 146097}, extremes...) {
			if holiday.Is(l, day) {
				t.Errorf("Is(%v.., %d)", l[0], day)
			}
		}
	}
}

// P10.4: spans that are empty, that have one end or both ends outside the days, and that have all of 40000 days.
func TestBetween(t *testing.T) {
	newYear := always(api.Holiday{Kind: api.HolFixed, Month: 1, Day: 1})
	end := always(api.Holiday{Kind: api.HolFixed, Month: 12, Day: 31})
	l := []api.Holiday{end, newYear, newYear}
	for _, c := range []struct {
		from, until int
		want        []int
	}{
		{0, 0, []int{0}}, {-5, 0, []int{0}}, {-40000, 0, []int{0}}, {-1, 364, []int{0, 364}}, {0, 365, []int{0, 364, 365}}, {1, 363, nil}, {1, 364, []int{364}}, {364, 365, []int{364, 365}}, {365, 364, nil}, {1000, 0, nil}, {365, -1, nil}, {-1, -2, nil},
		{math.MinInt, 0, []int{0}}, {math.MinInt, -1, nil}, {math.MinInt, math.MinInt, nil}, {math.MinInt, math.MinInt + 40000, nil}, {0, math.MinInt, nil}, {math.MaxInt, math.MinInt, nil}, {math.MaxInt, 0, nil}, {math.MaxInt, math.MaxInt, nil}, {math.MaxInt - 1, math.MaxInt, nil}, {-40001, -1, nil},
		{3652058, 3652058, []int{3652058}}, {3652058, 3652059, []int{3652058}}, {3652058, 3692058, []int{3652058}}, {3652058, math.MaxInt, []int{3652058}}, {3652059, 3652059, nil}, {3652059, math.MaxInt, nil}, {3651694, 3652057, []int{3651694}}, {3651693, 3652058, []int{3651693, 3651694, 3652058}},
	} {
		if got := holiday.Between(l, c.from, c.until); !slices.Equal(got, c.want) {
			t.Errorf("Between(%d, %d): %v, want %v", c.from, c.until, got, c.want)
		}
	}
	from := parse(t, "1950-06-01")
	got := holiday.Between(l, from, from+40000)
	if len(got) != 2*109 || got[0] != parse(t, "1950-12-31") || got[217] != parse(t, "2059-01-01") {
		t.Errorf("%d days, first %d, last %d", len(got), got[0], got[len(got)-1])
	}
}

// P10.2, P10.3, P10.4: there are no holidays without rules.
func TestNoRules(t *testing.T) {
	for _, l := range [][]api.Holiday{nil, {}} {
		if of, between := holiday.Of(l, 2026), holiday.Between(l, 739000, 779000); len(of) != 0 || len(between) != 0 || holiday.Is(l, 739000) {
			t.Errorf("%v, %v", of, between)
		}
	}
}

// R4: rules are not modified, with their spare capacity, and the results are new.
func TestArgumentsStay(t *testing.T) {
	spare := allRules()[300:420]
	before := slices.Clone(spare)
	l := spare[:100]
	holiday.Check(l)
	of, between := holiday.Of(l, 2026), holiday.Between(l, 739000, 741000)
	named, days := slices.Clone(of), slices.Clone(between)
	if len(of) == 0 || len(between) == 0 {
		t.Fatal("no holidays")
	}
	clear(of[:cap(of)])
	clear(between[:cap(between)])
	if !slices.Equal(holiday.Of(l, 2026), named) || !slices.Equal(holiday.Between(l, 739000, 741000), days) || !holiday.Is(l, days[0]) {
		t.Error("other results after the first ones were overwritten")
	}
	if !slices.Equal(spare, before) {
		t.Errorf("rules: %v", spare)
	}
}

// R1: no rules and no numbers make a function panic or run for ever, not even those that are outside its domain.
func TestNoPanic(t *testing.T) {
	numbers := append([]int{-1, 0, 1, 1583, 2026, 9999, 10000, 730000, 3652058}, extremes...)
	for kind := -1; kind <= 5; kind++ {
		for i := range 9 {
			r := always(api.Holiday{Kind: kind, Month: 1, Day: 1, Weekday: 5, Nth: 1, Move: 2})
			p, v := fields(&r)
			for _, *p[i] = range v[i] {
				l := []api.Holiday{r}
				for _, a := range numbers {
					holiday.Of(l, a)
					holiday.Is(l, a)
				}
				holiday.Between(l, 730000, 730400)
			}
		}
	}
	l := slices.Repeat([]api.Holiday{always(api.Holiday{Kind: api.HolNth, Month: 1, Nth: 1})}, 150)
	if got := holiday.Of(l, 2026); len(got) != 150 {
		t.Errorf("%d days of 150 rules", len(got))
	}
	if got := holiday.Between(l[:1], math.MinInt, math.MaxInt); len(got) != 9999 {
		t.Errorf("%d days of all years", len(got))
	}
}
