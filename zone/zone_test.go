package zone_test

import (
	"math"
	"slices"
	"testing"

	"rollbook/api"
	"rollbook/date"
	"rollbook/zone"
)

// example is the zone of the chapter's examples.
func example() api.Zone {
	return api.Zone{Offset: 60, Shifts: []api.Shift{{At: 2000, Offset: 120}, {At: 6000, Offset: 60}}}
}

// evenly returns a zone with n shifts, the first one at an instant and each further one step minutes later. The offsets go up and down.
func evenly(n, first, step int) api.Zone {
	z := api.Zone{Offset: -900}
	for i := range n {
		z.Shifts = append(z.Shifts, api.Shift{At: first + i*step, Offset: 900 - 1800*(i%2)})
	}
	return z
}

// P9.1: the limits of a zone, one at a time.
func TestCheck(t *testing.T) {
	shifts := func(s ...api.Shift) api.Zone { return api.Zone{Shifts: s} }
	for i, c := range []struct {
		z    api.Zone
		want api.Errno
	}{
		{api.Zone{}, api.OK}, {api.Zone{Shifts: []api.Shift{}}, api.OK}, {example(), api.OK},
		{api.Zone{Offset: -900}, api.OK}, {api.Zone{Offset: 900}, api.OK},
		{api.Zone{Offset: -901}, api.ErrRange}, {api.Zone{Offset: 901}, api.ErrRange},
		{api.Zone{Offset: math.MinInt}, api.ErrRange}, {api.Zone{Offset: math.MaxInt}, api.ErrRange},
		{evenly(99, 0, 2880), api.OK}, {evenly(100, 0, 2880), api.OK}, {evenly(101, 0, 2880), api.ErrLimit}, {evenly(1000, 0, 2880), api.ErrLimit},

		{shifts(api.Shift{At: 0, Offset: 0}), api.OK}, {shifts(api.Shift{At: -1, Offset: 0}), api.ErrRange},
		{shifts(api.Shift{At: 8589934592, Offset: 0}), api.OK}, {shifts(api.Shift{At: 8589934593, Offset: 0}), api.ErrRange},
		{shifts(api.Shift{At: math.MinInt, Offset: 0}), api.ErrRange}, {shifts(api.Shift{At: math.MaxInt, Offset: 0}), api.ErrRange},
		{shifts(api.Shift{At: 5, Offset: -900}), api.OK}, {shifts(api.Shift{At: 5, Offset: -901}), api.ErrRange},
		{shifts(api.Shift{At: 5, Offset: 900}), api.OK}, {shifts(api.Shift{At: 5, Offset: 901}), api.ErrRange},
		{shifts(api.Shift{At: 5, Offset: math.MinInt}), api.ErrRange}, {shifts(api.Shift{At: 5, Offset: math.MaxInt}), api.ErrRange},

		// The first shift may be at any instant, also within two days after day 0.
		{shifts(api.Shift{At: 1}, api.Shift{At: 2881}), api.OK}, {shifts(api.Shift{At: 1}, api.Shift{At: 2880}), api.ErrOrder},
		{shifts(api.Shift{At: 1}, api.Shift{At: 2882}), api.OK}, {shifts(api.Shift{At: 1}, api.Shift{At: 1}), api.ErrOrder},
		{shifts(api.Shift{At: 5000}, api.Shift{At: 4999}), api.ErrOrder}, {shifts(api.Shift{At: 5000}, api.Shift{At: 0}), api.ErrOrder},
		{shifts(api.Shift{At: 8589934592}, api.Shift{At: 0}), api.ErrOrder}, {shifts(api.Shift{At: 0}, api.Shift{At: 8589934592}), api.OK},
		{shifts(api.Shift{At: 8589934592 - 2880}, api.Shift{At: 8589934592}), api.OK}, {shifts(api.Shift{At: 8589934592 - 2879}, api.Shift{At: 8589934592}), api.ErrOrder},
		// Each shift is compared with the one before, not with the first one.
		{shifts(api.Shift{At: 0}, api.Shift{At: 10000}, api.Shift{At: 12879}), api.ErrOrder}, {shifts(api.Shift{At: 0}, api.Shift{At: 10000}, api.Shift{At: 12880}), api.OK},
		// A shift need not change the offset.
		{shifts(api.Shift{At: 0}, api.Shift{At: 3000}), api.OK},
	} {
		if got := zone.Check(c.z); got != c.want {
			t.Errorf("%d: Check(%v): %v, want %v", i, c.z, got, c.want)
		}
	}
}

// P9.1: of several errors the first one is returned.
func TestCheckOrder(t *testing.T) {
	many := evenly(101, -5, 7)
	many.Offset = 1000
	for i, c := range []struct {
		z    api.Zone
		want api.Errno
	}{
		{many, api.ErrLimit}, // also ErrRange and ErrOrder
		{api.Zone{Offset: 901, Shifts: []api.Shift{{At: 9}, {At: 8}}}, api.ErrRange},
		{api.Zone{Shifts: []api.Shift{{At: 9}, {At: -1}}}, api.ErrRange},             // the range of a shift before its order
		{api.Zone{Shifts: []api.Shift{{At: 9}, {At: 9, Offset: 901}}}, api.ErrRange}, // the range of the offset as well
		{api.Zone{Shifts: []api.Shift{{At: 9}, {At: 8}, {At: -1}}}, api.ErrOrder},    // a shift before the next one
		{api.Zone{Shifts: []api.Shift{{At: 9}, {At: -1}, {At: -2}}}, api.ErrRange},
		{api.Zone{Shifts: []api.Shift{{At: -1}, {At: -2}}}, api.ErrRange},
		{api.Zone{Shifts: []api.Shift{{At: 0}, {At: math.MinInt}}}, api.ErrRange},
		{api.Zone{Shifts: []api.Shift{{At: 1 << 33}, {At: 1<<33 + 1}}}, api.ErrRange},
	} {
		if got := zone.Check(c.z); got != c.want {
			t.Errorf("%d: Check(%v): %v, want %v", i, c.z, got, c.want)
		}
	}
}

// P9.1: each pair of a wrong and a second wrong or right part of a zone with three shifts.
func TestCheckPairs(t *testing.T) {
	ats := []int{-1, 0, 1, 2879, 2880, 2881, 5760, 1<<33 - 2880, 1<<33 - 2879, 1 << 33, 1<<33 + 1}
	offsets := []int{-901, -900, 0, 900, 901}
	for _, a := range ats {
		for _, b := range ats {
			for _, p := range offsets {
				for _, q := range offsets {
					for _, r := range offsets {
						z := api.Zone{Offset: r, Shifts: []api.Shift{{At: a, Offset: p}, {At: b, Offset: q}}}
						want := api.OK
						switch {
						case outside(r, -900, 900), outside(a, 0, 1<<33), outside(p, -900, 900), outside(b, 0, 1<<33), outside(q, -900, 900):
							want = api.ErrRange
						case b < a+2880:
							want = api.ErrOrder
						}
						if got := zone.Check(z); got != want {
							t.Fatalf("Check(%v): %v, want %v", z, got, want)
						}
					}
				}
			}
		}
	}
}

// outside reports whether n is not from low to high.
func outside(n, low, high int) bool { return n < low || n > high }

// P9.2: the offset and the local time at some instants, among them those of the chapter's examples.
func TestLocal(t *testing.T) {
	z := example()
	for _, c := range []struct{ instant, offset, day, minute int }{
		{-1 << 40, 60, -763549742, 764}, {-1501, 60, -2, 1439}, {-1500, 60, -1, 0}, {-100, 60, -1, 1400}, {-61, 60, -1, 1439}, {-60, 60, 0, 0}, {0, 60, 0, 60}, {1379, 60, 0, 1439}, {1380, 60, 1, 0},
		{1999, 60, 1, 619}, {2000, 120, 1, 680}, {2001, 120, 1, 681},
		{5999, 120, 4, 359}, {6000, 60, 4, 300}, {6001, 60, 4, 301}, {1 << 40, 60, 763549741, 796},
	} {
		day, minute := zone.Local(z, c.instant)
		if offset := zone.Offset(z, c.instant); offset != c.offset || day != c.day || minute != c.minute {
			t.Errorf("%d: offset %d, day %d, minute %d, want %v", c.instant, offset, day, minute, c)
		}
	}
}

// P9.3, P9.4: local times of the chapter's example in a gap, in a fold, beside them, and elsewhere.
func TestInstants(t *testing.T) {
	z := example()
	for _, c := range []struct {
		day, minute int
		instants    []int
		first, last int
	}{
		{-1, 1400, []int{-100}, -100, -100}, {0, 0, []int{-60}, -60, -60}, {0, 1439, []int{1379}, 1379, 1379},
		{1, 619, []int{1999}, 1999, 1999}, {1, 620, nil, 2000, 2000}, {1, 650, nil, 2000, 2000}, {1, 679, nil, 2000, 2000}, {1, 680, []int{2000}, 2000, 2000}, {1, 681, []int{2001}, 2001, 2001},
		{4, 299, []int{5939}, 5939, 5939}, {4, 300, []int{5940, 6000}, 5940, 6000}, {4, 330, []int{5970, 6030}, 5970, 6030}, {4, 359, []int{5999, 6059}, 5999, 6059}, {4, 360, []int{6060}, 6060, 6060},
		{1 << 29, 0, []int{1<<29*1440 - 60}, 1<<29*1440 - 60, 1<<29*1440 - 60}, {-1 << 29, 1439, []int{-1<<29*1440 + 1379}, -1<<29*1440 + 1379, -1<<29*1440 + 1379},
	} {
		if got := zone.Instants(z, c.day, c.minute); !slices.Equal(got, c.instants) {
			t.Errorf("Instants(%d, %d): %v, want %v", c.day, c.minute, got, c.instants)
		}
		if got := zone.Resolve(z, c.day, c.minute, false); got != c.first {
			t.Errorf("Resolve(%d, %d, false): %d, want %d", c.day, c.minute, got, c.first)
		}
		if got := zone.Resolve(z, c.day, c.minute, true); got != c.last {
			t.Errorf("Resolve(%d, %d, true): %d, want %d", c.day, c.minute, got, c.last)
		}
	}
}

// P9.3: what is no minute of a day has no instants, even where it would be a minute of a day beside.
func TestNoMinute(t *testing.T) {
	for _, z := range []api.Zone{{}, {Offset: 900}, {Offset: -900}, example(), evenly(100, 0, 2880)} {
		for _, minute := range []int{math.MinInt, -1 << 40, -1440, -100, -1, 1440, 1441, 2000, 2880, 1 << 40, math.MaxInt} {
			for _, day := range []int{-1 << 29, -1, 0, 1, 4, 1 << 29} {
				if got := zone.Instants(z, day, minute); len(got) != 0 {
					t.Fatalf("Instants(%v, %d, %d): %v", z, day, minute, got)
				}
			}
		}
	}
}

// P9.2, P9.3, P9.4: a gap and a fold of more than a day: the longest ones that are valid, which are two days apart.
func TestLongestGapAndFold(t *testing.T) {
	z := api.Zone{Offset: -900, Shifts: []api.Shift{{At: 2880, Offset: 900}, {At: 5760, Offset: -900}}}
	if e := zone.Check(z); e != api.OK {
		t.Fatal(e)
	}
	// The local times from 1980 to 3779 are left out, and those from 4860 to 6659 occur twice.
	for n := 540; n < 8640; n++ {
		day, minute := n/1440, n%1440
		var want []int
		switch {
		case n < 1980:
			want = []int{n + 900}
		case 3780 <= n && n < 4860:
			want = []int{n - 900}
		case 4860 <= n && n < 6660:
			want = []int{n - 900, n + 900}
		case 6660 <= n:
			want = []int{n + 900}
		}
		if got := zone.Instants(z, day, minute); !slices.Equal(got, want) {
			t.Fatalf("Instants(%d, %d): %v, want %v", day, minute, got, want)
		}
		if len(want) == 0 {
			want = []int{2880}
		}
		if got := zone.Resolve(z, day, minute, false); got != want[0] {
			t.Fatalf("Resolve(%d, %d, false): %d, want %d", day, minute, got, want[0])
		}
		if got := zone.Resolve(z, day, minute, true); got != want[len(want)-1] {
			t.Fatalf("Resolve(%d, %d, true): %d, want %d", day, minute, got, want[len(want)-1])
		}
	}
}

// P9.4: a gap and a fold at the first and at the last instant at which a shift may be.
func TestShiftsAtTheLimits(t *testing.T) {
	const last = 1 << 33
	z := api.Zone{Offset: 0, Shifts: []api.Shift{{At: 0, Offset: 10}, {At: last, Offset: 0}}}
	if e := zone.Check(z); e != api.OK {
		t.Fatal(e)
	}
	if got := zone.Instants(z, 0, 9); len(got) != 0 {
		t.Error(got)
	}
	if first, late := zone.Resolve(z, 0, 0, false), zone.Resolve(z, 0, 9, true); first != 0 || late != 0 {
		t.Error(first, late)
	}
	day, minute := zone.Local(z, last)
	if got := zone.Instants(z, day, minute); !slices.Equal(got, []int{last - 10, last}) {
		t.Error(got)
	}
}

// R4: a zone is not modified, with its spare capacity, and the results are new.
func TestArgumentsStay(t *testing.T) {
	spare := []api.Shift{{At: 2000, Offset: 120}, {At: 6000, Offset: 60}, {At: 77, Offset: 7}, {At: 78, Offset: 8}}
	before := slices.Clone(spare)
	z := api.Zone{Offset: 60, Shifts: spare[:2]}
	for _, n := range []int{1400, 2060, 2100, 6090, 9999} {
		zone.Check(z)
		zone.Offset(z, n)
		zone.Local(z, n)
		zone.Resolve(z, n/1440, n%1440, false)
		zone.Resolve(z, n/1440, n%1440, true)
		got := zone.Instants(z, n/1440, n%1440)
		want := slices.Clone(got)
		for i := range got {
			got[i] = -5
		}
		if again := zone.Instants(z, n/1440, n%1440); !slices.Equal(again, want) {
			t.Errorf("Instants(%d) again: %v, want %v", n, again, want)
		}
	}
	if !slices.Equal(spare, before) {
		t.Errorf("shifts: %v", spare)
	}
}

// R1: no zone and no number makes a function panic or run for ever, not even those that are outside its domain.
func TestNoPanic(t *testing.T) {
	numbers := []int{math.MinInt, math.MinInt + 1, -1 << 40, -1, 0, 1, 1440, 1 << 40, math.MaxInt - 1, math.MaxInt}
	wrong := api.Zone{Offset: math.MaxInt, Shifts: []api.Shift{{At: math.MaxInt, Offset: math.MinInt}, {At: math.MinInt, Offset: math.MaxInt}, {At: 0, Offset: 0}}}
	for _, z := range []api.Zone{{}, example(), evenly(100, 0, 2880), evenly(200, -100, -1), wrong} {
		for _, a := range numbers {
			zone.Check(z)
			zone.Offset(z, a)
			zone.Local(z, a)
			for _, b := range numbers {
				zone.Instants(z, a, b)
				zone.Resolve(z, a, b, false)
				zone.Resolve(z, a, b, true)
			}
		}
	}
}

// P9.2, P9.11: the date of an instant in universal time and in local time.
func TestLocalDate(t *testing.T) {
	day, e := date.Parse("2026-02-28")
	if e != api.OK {
		t.Fatal(e)
	}
	for _, c := range []struct {
		offset, minute int
		want           string
		local          int
	}{
		{0, 0, "2026-02-28", 0}, {60, 1379, "2026-02-28", 1439}, {60, 1380, "2026-03-01", 0}, {-60, 59, "2026-02-27", 1439}, {-60, 60, "2026-02-28", 0}, {900, 539, "2026-02-28", 1439}, {900, 540, "2026-03-01", 0}, {-900, 899, "2026-02-27", 1439}, {-900, 900, "2026-02-28", 0},
	} {
		d, minute := zone.Local(api.Zone{Offset: c.offset}, day*1440+c.minute)
		if date.Print(d) != c.want || minute != c.local {
			t.Errorf("%v: %s, minute %d", c, date.Print(d), minute)
		}
	}
}
