package zone_test

import (
	"math/rand"
	"slices"
	"sort"
	"testing"
	"time"

	_ "time/tzdata" // the zones of TestZonesOfPlaces, wherever the tests run

	"rollbook/api"
	"rollbook/date"
	"rollbook/zone"
)

// clock returns the local time at an instant, as the minutes since the beginning of local day 0. It looks for the last shift from the end on.
func clock(z api.Zone, instant int) int {
	for i := len(z.Shifts) - 1; i >= 0; i-- {
		if z.Shifts[i].At <= instant {
			return instant + z.Shifts[i].Offset
		}
	}
	return instant + z.Offset
}

// split returns the day and the minute of a local time.
func split(n int) (int, int) {
	minute := (n%1440 + 1440) % 1440
	return (n - minute) / 1440, minute
}

// gapAt returns the instant of the shift in whose gap a local time lies.
func gapAt(z api.Zone, n int) (int, bool) {
	for _, s := range z.Shifts {
		if clock(z, s.At-1)+1 <= n && n < clock(z, s.At) {
			return s.At, true
		}
	}
	return 0, false
}

// checkInstant checks the functions from instants to local times, at an instant.
func checkInstant(t *testing.T, z api.Zone, instant int) {
	t.Helper()
	want := clock(z, instant)
	if got := zone.Offset(z, instant); got != want-instant {
		t.Fatalf("Offset(%v, %d): %d, want %d", z, instant, got, want-instant)
	}
	day, minute := zone.Local(z, instant)
	if d, m := split(want); day != d || minute != m {
		t.Fatalf("Local(%v, %d): day %d, minute %d, want %d, %d", z, instant, day, minute, d, m)
	}
	if outside(day, -1<<29, 1<<29) {
		return
	}
	if got := zone.Instants(z, day, minute); !slices.Contains(got, instant) {
		t.Fatalf("Instants(%v, %d, %d): %v without %d", z, day, minute, got, instant)
	}
}

// checkLocal checks the functions from local times to instants, for a local time whose instants are given, and returns what Resolve returns, the last one after the first one.
func checkLocal(t *testing.T, z api.Zone, n int, instants []int) [2]int {
	t.Helper()
	day, minute := split(n)
	got := zone.Instants(z, day, minute)
	if !slices.Equal(got, instants) {
		t.Fatalf("Instants(%v, %d, %d): %v, want %v", z, day, minute, got, instants)
	}
	if len(got) > 2 || len(got) == 2 && got[1]-got[0] > 1800 {
		t.Fatalf("Instants(%v, %d, %d): %v", z, day, minute, got)
	}
	at, gap := gapAt(z, n)
	if gap != (len(got) == 0) {
		t.Fatalf("%v: day %d, minute %d in a gap: %v, instants: %v", z, day, minute, gap, got)
	}
	want := [2]int{at, at}
	if !gap {
		want = [2]int{instants[0], instants[len(instants)-1]}
	}
	resolved := [2]int{zone.Resolve(z, day, minute, false), zone.Resolve(z, day, minute, true)}
	if resolved != want {
		t.Fatalf("Resolve(%v, %d, %d): %v, want %v", z, day, minute, resolved, want)
	}
	return resolved
}

// near returns all instants with a local time: an offset is from -900 to 900.
func near(z api.Zone, n int) []int {
	var found []int
	for instant := n - 900; instant <= n+900; instant++ {
		if clock(z, instant) == n {
			found = append(found, instant)
		}
	}
	return found
}

// walk checks all instants from one to another one, and all local times that only they can have.
func walk(t *testing.T, z api.Zone, from, until int) {
	t.Helper()
	if e := zone.Check(z); e != api.OK {
		t.Fatalf("Check(%v): %v", z, e)
	}
	instants := map[int][]int{}
	for instant := from; instant < until; instant++ {
		checkInstant(t, z, instant)
		n := clock(z, instant)
		instants[n] = append(instants[n], instant)
	}
	before := [2]int{from - 1800, from - 1800}
	for n := from + 900; n < until-900; n++ {
		resolved := checkLocal(t, z, n, instants[n])
		if resolved[0] < before[0] || resolved[1] < before[1] || resolved[1] < resolved[0] {
			t.Fatalf("Resolve(%v, %d): %v after %v", z, n, resolved, before)
		}
		before = resolved
	}
}

// randomZone returns a random valid zone with n shifts. Offsets, and the spans from shift to shift, are often the least or the greatest ones.
func randomZone(r *rand.Rand, n int) api.Zone {
	offset := func() int {
		switch r.Intn(5) {
		case 0:
			return 900 - 1800*r.Intn(2)
		case 1:
			return 15 * (r.Intn(9) - 4)
		}
		return r.Intn(1801) - 900
	}
	z := api.Zone{Offset: offset()}
	at := []int{0, 1, 899, 900, r.Intn(10000), r.Intn(1 << 20), 1 << 29}[r.Intn(7)]
	for range n {
		z.Shifts = append(z.Shifts, api.Shift{At: at, Offset: offset()})
		at += 2880 + []int{0, 0, 1, r.Intn(10), r.Intn(3000)}[r.Intn(5)]
	}
	return z
}

// P9.2 to P9.7: all instants and local times around the shifts of zones whose shifts are close together.
func TestAllInstants(t *testing.T) {
	r := rand.New(rand.NewSource(9))
	for i := range 60 {
		z := randomZone(r, i%7)
		from, until := 0, 0
		if len(z.Shifts) > 0 {
			from, until = z.Shifts[0].At, z.Shifts[len(z.Shifts)-1].At
		}
		walk(t, z, from-4000, until+4000)
	}
	walk(t, evenly(100, 0, 2880), -4000, 100*2880+4000)
	walk(t, example(), -5000, 12000)
	walk(t, api.Zone{Offset: 900, Shifts: []api.Shift{{At: 1<<33 - 2880, Offset: -900}, {At: 1 << 33, Offset: 900}}}, 1<<33-8000, 1<<33+8000)
}

// P9.2 to P9.5: instants and local times near the ends of what is permitted, and elsewhere.
func TestFarInstants(t *testing.T) {
	r := rand.New(rand.NewSource(10))
	for i := range 400 {
		z := randomZone(r, i%101)
		for _, instant := range []int{-1 << 40, -1<<40 + 1, 1<<40 - 1, 1 << 40, r.Intn(1<<41) - 1<<40, r.Intn(1<<34) - 1<<33, r.Intn(1 << 21)} {
			checkInstant(t, z, instant)
		}
		for _, day := range []int{-1 << 29, 1 << 29, r.Intn(1<<30) - 1<<29, r.Intn(1 << 10)} {
			for _, minute := range []int{0, 1, r.Intn(1440), 1438, 1439} {
				n := 1440*day + minute
				checkLocal(t, z, n, near(z, n))
			}
		}
	}
}

// P9.6: where a local time has no instants. Here the words of the promise are followed, with Local for the local times.
func TestGaps(t *testing.T) {
	local := func(z api.Zone, instant int) int {
		day, minute := zone.Local(z, instant)
		return 1440*day + minute
	}
	r := rand.New(rand.NewSource(11))
	for i := range 100 {
		z := randomZone(r, i%5)
		for _, s := range z.Shifts {
			for n := s.At - 1000; n < s.At+1000; n++ {
				day, minute := split(n)
				at := zone.Resolve(z, day, minute, i%2 == 0)
				k := slices.IndexFunc(z.Shifts, func(s api.Shift) bool { return s.At == at })
				gap := k >= 0 && at+zone.Offset(z, at-1) <= n && n < local(z, at)
				if got := zone.Instants(z, day, minute); gap != (len(got) == 0) {
					t.Fatalf("Instants(%v, %d, %d): %v; Resolve: %d", z, day, minute, got, at)
				}
			}
		}
	}
}

// P9.7: local times that are far from each other.
func TestOrder(t *testing.T) {
	r := rand.New(rand.NewSource(12))
	for i := range 3000 {
		z := randomZone(r, i%101)
		n := r.Intn(1<<22) - 1<<21
		day, minute := split(n)
		later, last := split(n + []int{0, 1, r.Intn(4000), r.Intn(1 << 22)}[i%4])
		for _, late := range []bool{false, true} {
			a, b := zone.Resolve(z, day, minute, late), zone.Resolve(z, later, last, late)
			if a > b {
				t.Fatalf("Resolve(%v, %d, %d, %v): %d, but Resolve(%d, %d): %d", z, day, minute, late, a, later, last, b)
			}
		}
	}
}

// P9.8: from minute to minute the local time is one minute later, except directly before a shift.
func TestSteps(t *testing.T) {
	r := rand.New(rand.NewSource(13))
	for i := range 60 {
		z := randomZone(r, i%5)
		instant := -5000
		if len(z.Shifts) > 0 {
			instant = z.Shifts[0].At - 5000
		}
		day, minute := zone.Local(z, instant)
		offset := z.Offset
		for range 20000 {
			step := 1
			for _, s := range z.Shifts {
				if s.At == instant+1 {
					step += s.Offset - offset
					offset = s.Offset
				}
			}
			instant++
			d, m := zone.Local(z, instant)
			if m < 0 || m >= 1440 || 1440*(d-day)+m-minute != step {
				t.Fatalf("Local(%v, %d): day %d, minute %d after day %d, minute %d", z, instant, d, m, day, minute)
			}
			day, minute = d, m
		}
	}
}

// P9.9: a zone whose shifts are all some days later.
func TestTranslation(t *testing.T) {
	r := rand.New(rand.NewSource(14))
	for i := range 1000 {
		z := randomZone(r, 1+i%9)
		last := z.Shifts[len(z.Shifts)-1].At
		days := []int{1, r.Intn(1000), (1<<33 - last) / 1440, -(z.Shifts[0].At / 1440)}[i%4]
		moved := api.Zone{Offset: z.Offset, Shifts: slices.Clone(z.Shifts)}
		for k := range moved.Shifts {
			moved.Shifts[k].At += 1440 * days
		}
		if e := zone.Check(moved); e != api.OK {
			t.Fatalf("Check(%v): %v", moved, e)
		}
		for _, s := range z.Shifts {
			for _, instant := range []int{s.At - 2000, s.At - 1, s.At, s.At + 1, s.At + r.Intn(4000)} {
				day, minute := zone.Local(z, instant)
				if d, m := zone.Local(moved, instant+1440*days); d != day+days || m != minute {
					t.Fatalf("Local(%v, %d): day %d, minute %d, but %d, %d when %d days later", z, instant, day, minute, d, m, days)
				}
			}
		}
	}
}

// P9.10: without shifts every local time has one instant.
func TestFixedOffsets(t *testing.T) {
	for offset := -900; offset <= 900; offset++ {
		z := api.Zone{Offset: offset}
		for _, day := range []int{-1 << 29, -1000, -1, 0, 1, 739574, api.MaxDay, 1 << 29} {
			for minute := 0; minute < 1440; minute += 1 + (minute+offset+900)%97 {
				checkLocal(t, z, 1440*day+minute, []int{1440*day + minute - offset})
			}
			checkLocal(t, z, 1440*day+1439, []int{1440*day + 1439 - offset})
		}
	}
}

// P9.11: the date of a local day is that of the day in universal time or a neighbour, as the standard library has it.
func TestDates(t *testing.T) {
	r := rand.New(rand.NewSource(15))
	for i := range 2000 {
		z := randomZone(r, i%11)
		instant := 1440 + r.Intn(1440*(api.MaxDay-2))
		if len(z.Shifts) > 0 && i%2 == 0 {
			instant = 1440 + z.Shifts[i%len(z.Shifts)].At + r.Intn(3000) - 1500
		}
		if instant < 1440 {
			continue
		}
		day, _ := zone.Local(z, instant)
		got, e := date.Of(day)
		if e != api.OK {
			t.Fatalf("Of(%d): %v", day, e)
		}
		universal := time.Date(1, 1, 1, 0, instant%1440, 0, 0, time.UTC).AddDate(0, 0, instant/1440)
		want := dateOf(universal.In(time.FixedZone("", 60*(clock(z, instant)-instant))))
		if got != want {
			t.Fatalf("%v, %d: %v, want %v", z, instant, got, want)
		}
		if got != dateOf(universal) && got != dateOf(universal.AddDate(0, 0, 1)) && got != dateOf(universal.AddDate(0, 0, -1)) {
			t.Fatalf("%v, %d: %v, in universal time %v", z, instant, got, universal)
		}
	}
}

// dateOf returns the date of a time of the standard library.
func dateOf(at time.Time) api.Date {
	year, month, day := at.Date()
	return api.Date{Year: year, Month: int(month), Day: day}
}

// place returns the zone of a place as the standard library knows it, with its shifts from 1996 to 2040. It compares the offsets from day to day, and then looks for the minute of the shift.
func place(t *testing.T, name string) (*time.Location, api.Zone) {
	t.Helper()
	where, err := time.LoadLocation(name)
	if err != nil {
		t.Fatal(err)
	}
	offset := func(instant int) int {
		_, seconds := timeOf(instant).In(where).Zone()
		return seconds / 60
	}
	z := api.Zone{Offset: offset(1440 * firstDay)}
	for day := firstDay; day < lastDay; day++ {
		before, after := offset(1440*day), offset(1440*day+1440)
		if before != after {
			minute := sort.Search(1440, func(i int) bool { return offset(1440*day+1+i) == after })
			z.Shifts = append(z.Shifts, api.Shift{At: 1440*day + 1 + minute, Offset: after})
		}
	}
	return where, z
}

const (
	firstDay = 728658 // 1996-01-01
	lastDay  = 744729 // 2040-01-01
	unixDay  = 719162 // 1970-01-01
)

// timeOf returns an instant as a time of the standard library.
func timeOf(instant int) time.Time { return time.Unix(int64(instant-1440*unixDay)*60, 0) }

// instantOf returns the instant of a time of the standard library.
func instantOf(at time.Time) int { return int(at.Unix()/60) + 1440*unixDay }

// P9.2 to P9.5: zones of some places, among them one that left out a day, and one whose summer time is half an hour.
func TestZonesOfPlaces(t *testing.T) {
	for _, name := range []string{"UTC", "Europe/Berlin", "America/New_York", "America/St_Johns", "Asia/Kathmandu", "Australia/Lord_Howe", "Pacific/Apia", "Africa/Monrovia"} {
		where, z := place(t, name)
		if e := zone.Check(z); e != api.OK {
			t.Fatalf("%s: %v: %v", name, z, e)
		}
		compare := func(instant int) {
			t.Helper()
			local := timeOf(instant).In(where)
			day, minute := zone.Local(z, instant)
			if got, _ := date.Of(day); got != dateOf(local) || minute != 60*local.Hour()+local.Minute() {
				t.Fatalf("%s: %v: %v, minute %d", name, local, got, minute)
			}
			if got := zone.Instants(z, day, minute); !slices.Contains(got, instant) {
				t.Fatalf("%s: %v: %v without %d", name, local, got, instant)
			}
		}
		for _, s := range z.Shifts {
			for instant := s.At - 1500; instant < s.At+1500; instant += 7 {
				compare(instant)
			}
			compare(s.At - 1)
			compare(s.At)
		}
		for day := firstDay; day < lastDay; day += 5 {
			compare(1440*day + 720)
		}
	}
}

// P9.3, P9.4: local times in the gap and in the fold of a year in Berlin, and on the day that Apia left out.
func TestResolveInPlaces(t *testing.T) {
	for _, c := range []struct {
		place, day  string
		minute      int
		first, last string
		instants    int
	}{
		{"Europe/Berlin", "2026-03-29", 119, "2026-03-29T00:59:00Z", "2026-03-29T00:59:00Z", 1},
		{"Europe/Berlin", "2026-03-29", 120, "2026-03-29T01:00:00Z", "2026-03-29T01:00:00Z", 0},
		{"Europe/Berlin", "2026-03-29", 179, "2026-03-29T01:00:00Z", "2026-03-29T01:00:00Z", 0},
		{"Europe/Berlin", "2026-03-29", 180, "2026-03-29T01:00:00Z", "2026-03-29T01:00:00Z", 1},
		{"Europe/Berlin", "2026-10-25", 119, "2026-10-24T23:59:00Z", "2026-10-24T23:59:00Z", 1},
		{"Europe/Berlin", "2026-10-25", 120, "2026-10-25T00:00:00Z", "2026-10-25T01:00:00Z", 2},
		{"Europe/Berlin", "2026-10-25", 179, "2026-10-25T00:59:00Z", "2026-10-25T01:59:00Z", 2},
		{"Europe/Berlin", "2026-10-25", 180, "2026-10-25T02:00:00Z", "2026-10-25T02:00:00Z", 1},
		{"Pacific/Apia", "2011-12-29", 1439, "2011-12-30T09:59:00Z", "2011-12-30T09:59:00Z", 1},
		{"Pacific/Apia", "2011-12-30", 720, "2011-12-30T10:00:00Z", "2011-12-30T10:00:00Z", 0},
		{"Pacific/Apia", "2011-12-31", 0, "2011-12-30T10:00:00Z", "2011-12-30T10:00:00Z", 1},
	} {
		_, z := place(t, c.place)
		day, e := date.Parse(c.day)
		if e != api.OK {
			t.Fatal(c.day, e)
		}
		if got := zone.Instants(z, day, c.minute); len(got) != c.instants {
			t.Errorf("%v: instants %v", c, got)
		}
		for late, want := range map[bool]string{false: c.first, true: c.last} {
			at, err := time.Parse(time.RFC3339, want)
			if err != nil {
				t.Fatal(err)
			}
			if got := zone.Resolve(z, day, c.minute, late); got != instantOf(at) {
				t.Errorf("%v: Resolve with %v: %d, want %d", c, late, got, instantOf(at))
			}
		}
	}
}
