package holiday_test

import (
	"maps"
	"math/rand"
	"slices"
	"testing"

	"rollbook/api"
	"rollbook/date"
	"rollbook/holiday"
	"rollbook/tree"
)

// someYears are years of each kind: with each weekday on January 1, leap and other ones, and those at the limits of the calendar and of Easter.
func someYears() []int {
	var l []int
	for _, span := range [][2]int{{1, 8}, {1580, 1586}, {1896, 1904}, {1996, 2028}, {2096, 2104}, {9990, 9999}} {
		for year := span[0]; year <= span[1]; year++ {
			l = append(l, year)
		}
	}
	return l
}

// randomRules returns n random valid rules. They are often at the ends of years, on equal days, and in force in few years around a year.
func randomRules(r *rand.Rand, n, year int) []api.Holiday {
	var l []api.Holiday
	for range n {
		h := api.Holiday{
			Kind: 1 + r.Intn(4), Month: []int{1, 12, 1 + r.Intn(12)}[r.Intn(3)], Day: []int{1, 2, 29, 31, 1 + r.Intn(31)}[r.Intn(5)],
			Weekday: r.Intn(7), Nth: 1 + r.Intn(5), Offset: []int{-100, 0, 1, r.Intn(201) - 100}[r.Intn(4)], Move: r.Intn(3),
		}
		h.First, h.Last = 1+r.Intn(9999), 9999
		if r.Intn(3) > 0 {
			h.First = min(max(year-r.Intn(4), 1), 9999)
		}
		if r.Intn(3) > 0 {
			h.Last = min(h.First+r.Intn(6), 9999)
		}
		l = append(l, h)
	}
	return l
}

// P10.2, P10.5: all rules of each kind, in years of each kind.
func TestAllRules(t *testing.T) {
	rules := allRules()
	for from := 0; from < len(rules); from += 100 {
		l := rules[from:min(from+100, len(rules))]
		for _, year := range someYears() {
			got := holiday.Of(l, year)
			if want := namedOf(l, year); !slices.Equal(got, want) {
				t.Fatalf("Of(%v.., %d): %v, want %v", l[0], year, got, want)
			}
			for _, n := range got {
				checkWeekday(t, l[n.Rule], n.Day)
			}
		}
	}
}

// checkWeekday checks the weekday, and the day of the month, on which a holiday is kept.
func checkWeekday(t *testing.T, r api.Holiday, day int) {
	t.Helper()
	weekday := date.Weekday(day)
	if r.Move != api.MoveNone && weekday >= 5 {
		t.Fatalf("%v is kept on the weekday %d", r, weekday)
	}
	if r.Move != api.MoveNone || r.Kind != api.HolNth && r.Kind != api.HolLast {
		return
	}
	d, _ := date.Of(day)
	low, high := 7*r.Nth-6, 7*r.Nth
	if r.Kind == api.HolLast {
		high = date.Length(d.Year, d.Month)
		low = high - 6
	}
	if weekday != r.Weekday || d.Month != r.Month || d.Day < low || d.Day > high {
		t.Fatalf("%v is kept on %v, weekday %d", r, d, weekday)
	}
}

// P10.2: fields that a kind does not use change nothing.
func TestUnusedFields(t *testing.T) {
	r := rand.New(rand.NewSource(2))
	unused := map[int][]int{api.HolFixed: {3, 4, 5}, api.HolNth: {2, 5}, api.HolLast: {2, 4, 5}, api.HolEaster: {1, 2, 3, 4}}
	for _, plain := range allRules() {
		h := plain
		p, _ := fields(&h)
		for _, i := range unused[h.Kind] {
			*p[i] = append(extremes, r.Intn(100)-50)[r.Intn(len(extremes)+1)]
		}
		year := someYears()[r.Intn(len(someYears()))]
		got, want := holiday.Of([]api.Holiday{h}, year), holiday.Of([]api.Holiday{plain}, year)
		if holiday.Check([]api.Holiday{h}) != api.OK || !slices.Equal(got, want) {
			t.Fatalf("Of(%v, %d): %v, want %v", h, year, got, want)
		}
	}
}

// P10.2: lists of rules many of which are kept on equal days.
func TestOrder(t *testing.T) {
	r := rand.New(rand.NewSource(3))
	equal := 0
	for range 500 {
		year := 1 + r.Intn(9999)
		l := randomRules(r, r.Intn(101), year)
		for i := range l {
			if l[i] = always(l[i]); r.Intn(2) == 0 {
				l[i] = l[r.Intn(i+1)]
			}
		}
		got := holiday.Of(l, year)
		if want := namedOf(l, year); !slices.Equal(got, want) {
			t.Fatalf("Of(%v, %d): %v, want %v", l, year, got, want)
		}
		for i := 1; i < len(got); i++ {
			if got[i].Day == got[i-1].Day {
				equal++
			}
		}
	}
	if equal < 5000 {
		t.Errorf("%d equal days", equal)
	}
}

// P10.3, P10.4, P10.9: all days of some years, by lists of all sizes.
func TestAllDays(t *testing.T) {
	r := rand.New(rand.NewSource(4))
	for i, year := range append(someYears(), someYears()...) {
		l := randomRules(r, []int{1, 2, 3, 10, 100}[i%5], year)
		if e := holiday.Check(l); e != api.OK {
			t.Fatalf("Check(%v): %v", l, e)
		}
		kept := daysOf(l, year-2, year+2)
		// The days of the years before and after it, without those that a holiday of one more year can have.
		from, _ := date.Day(api.Date{Year: max(year-1, 1), Month: 1, Day: 1})
		until, _ := date.Day(api.Date{Year: min(year+1, 9999), Month: 12, Day: 31})
		maps.DeleteFunc(kept, func(day int, _ bool) bool { return day < from || day > until })
		for day := from; day <= until; day++ {
			if got := holiday.Is(l, day); got != kept[day] {
				t.Fatalf("Is(%v, %d): %v", l, day, got)
			}
		}
		want := slices.Sorted(maps.Keys(kept))
		if got := holiday.Between(l, from, until); !slices.Equal(got, want) {
			t.Fatalf("Between(%v, %d, %d): %v, want %v", l, from, until, got, want)
		}
		for range 50 {
			checkSpan(t, l, want, from+r.Intn(until-from+1), from+r.Intn(until-from+1))
		}
		if len(want) > 0 {
			checkSpan(t, l, want, want[0], want[len(want)-1])
			checkSpan(t, l, want, want[0]+1, want[len(want)-1]-1)
		}
	}
}

// checkSpan checks the days of a span that lies within the days of which the kept ones are given.
func checkSpan(t *testing.T, l []api.Holiday, kept []int, from, until int) {
	t.Helper()
	var want []int
	for _, day := range kept {
		if from <= day && day <= until {
			want = append(want, day)
		}
	}
	if got := holiday.Between(l, from, until); !slices.Equal(got, want) {
		t.Fatalf("Between(%v, %d, %d): %v, want %v", l, from, until, got, want)
	}
}

// P10.4, P10.9: spans of many years, and each day of Of and of Between against the other functions.
func TestLongSpans(t *testing.T) {
	r := rand.New(rand.NewSource(5))
	for range 60 {
		from := r.Intn(api.MaxDay+40000) - 20000
		until := from + []int{40000, r.Intn(40001)}[r.Intn(2)]
		start, _ := date.Of(min(max(from, 0), api.MaxDay))
		l := randomRules(r, 1+r.Intn(30), start.Year+r.Intn(50))
		got := holiday.Between(l, from, until)
		here := map[int]bool{}
		for i, day := range got {
			if day < from || day > until || i > 0 && day <= got[i-1] || !holiday.Is(l, day) {
				t.Fatalf("Between(%v, %d, %d): day %d at %d", l, from, until, day, i)
			}
			here[day] = true
		}
		want := daysOf(l, start.Year-1, start.Year+112)
		maps.DeleteFunc(want, func(day int, _ bool) bool { return day < from || day > until })
		if !maps.Equal(here, want) {
			t.Fatalf("Between(%v, %d, %d): %v, want %v", l, from, until, got, slices.Sorted(maps.Keys(want)))
		}
		for range 500 {
			day := from + r.Intn(until-from+1)
			if holiday.Is(l, day) != here[day] {
				t.Fatalf("Is(%v, %d): %v", l, day, !here[day])
			}
		}
	}
}

// P10.9: each day of Of is one on which a holiday is kept, and each such day is one of Of for its year or for a neighbouring one.
func TestDaysOfYears(t *testing.T) {
	r := rand.New(rand.NewSource(6))
	beside := 0
	for _, year := range someYears() {
		l := randomRules(r, 40, year)
		of := map[int]bool{}
		for y := year - 1; y <= year+1; y++ {
			for _, n := range holiday.Of(l, y) {
				if !holiday.Is(l, n.Day) {
					t.Fatalf("day %d of Of(%v, %d) is no holiday", n.Day, l, y)
				}
				if d, _ := date.Of(n.Day); d.Year != y {
					beside++
				}
				of[n.Day] = true
			}
		}
		from, _ := date.Day(api.Date{Year: year, Month: 1, Day: 1})
		until, _ := date.Day(api.Date{Year: year, Month: 12, Day: 31})
		for day := from; day <= until; day++ {
			if got := holiday.Is(l, day); got != of[day] {
				t.Fatalf("Is(%v, %d): %v", l, day, got)
			}
		}
	}
	if beside < 50 {
		t.Errorf("%d days in a neighbouring year", beside)
	}
}

// P10.6: what two lists have together is what the one or the other one has.
func TestConcatenation(t *testing.T) {
	r := rand.New(rand.NewSource(7))
	for _, year := range someYears() {
		a, b := randomRules(r, r.Intn(20), year), randomRules(r, r.Intn(20), year)
		both := slices.Concat(a, b)
		from, _ := date.Day(api.Date{Year: year, Month: 1, Day: 1})
		for day := from - 30; day < from+400; day++ {
			if got, want := holiday.Is(both, day), holiday.Is(a, day) || holiday.Is(b, day); got != want {
				t.Fatalf("Is(%v and %v, %d): %v", a, b, day, got)
			}
		}
		want := slices.Concat(holiday.Between(a, from, from+4000), holiday.Between(b, from, from+4000))
		slices.Sort(want)
		if got := holiday.Between(both, from, from+4000); !slices.Equal(got, slices.Compact(want)) {
			t.Fatalf("Between(%v and %v, %d): %v, want %v", a, b, from, got, want)
		}
	}
}

// P10.7: the kept days of the year 400 years later are 146097 days later.
func TestFourHundredYears(t *testing.T) {
	rules := slices.DeleteFunc(allRules(), func(r api.Holiday) bool { return r.Kind == api.HolEaster })
	for from := 0; from < len(rules); from += 100 {
		l := rules[from:min(from+100, len(rules))]
		for _, year := range append(someYears()[:50], 9590, 9598, 9599) {
			want := holiday.Of(l, year)
			for i := range want {
				want[i].Day += 146097
			}
			if got := holiday.Of(l, year+400); !slices.Equal(got, want) {
				t.Fatalf("Of(%v.., %d): %v, want %v", l[0], year+400, got, want)
			}
		}
	}
}

// P10.8: all offsets from Easter, in all years.
func TestEaster(t *testing.T) {
	for offset := -100; offset <= 100; offset++ {
		l := []api.Holiday{always(api.Holiday{Kind: api.HolEaster, Offset: offset})}
		for year := 1; year <= 9999; year++ {
			got := holiday.Of(l, year)
			easter, e := date.Easter(year)
			if e != api.OK && len(got) == 0 {
				continue
			}
			if e != api.OK || !slices.Equal(got, []api.Named{{Day: easter + offset}}) {
				t.Fatalf("Of(%v, %d): %v, Easter is on day %d, %v", l, year, got, easter, e)
			}
			if offset%7 == 0 && date.Weekday(got[0].Day) != 6 {
				t.Fatalf("Of(%v, %d): weekday %d", l, year, date.Weekday(got[0].Day))
			}
		}
	}
}

// The definitions: in no year a rule would be kept on a day that is not from 0 to MaxDay.
func TestFirstAndLastYear(t *testing.T) {
	for _, r := range allRules() {
		for _, year := range []int{1, 9999} {
			for _, n := range holiday.Of([]api.Holiday{r}, year) {
				if n.Day < 0 || n.Day > api.MaxDay || !holiday.Is([]api.Holiday{r}, n.Day) {
					t.Fatalf("Of(%v, %d): %d", r, year, n.Day)
				}
			}
		}
	}
}

// P10.10: the kept days of a year as keys of a tree.
func TestDaysAsKeys(t *testing.T) {
	r := rand.New(rand.NewSource(10))
	for _, year := range someYears() {
		l := randomRules(r, 100, year)
		named := holiday.Of(l, year)
		var want []int
		for _, n := range named {
			want = append(want, n.Day)
		}
		want = slices.Compact(want)
		r.Shuffle(len(named), func(i, j int) { named[i], named[j] = named[j], named[i] })
		keys := tree.New()
		for _, n := range named {
			keys = keys.Put(date.Print(n.Day), "")
		}
		var got []int
		for _, pair := range keys.Range("", "") {
			got = append(got, parse(t, pair.Key))
		}
		if !slices.Equal(got, want) || keys.Len() != len(want) {
			t.Fatalf("keys of %d: %v, want %v", year, got, want)
		}
	}
}
