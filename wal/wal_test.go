package wal_test

import (
	"bytes"
	"math"
	"math/rand"
	"slices"
	"strings"
	"testing"

	"rollbook/api"
	"rollbook/disk"
	"rollbook/wal"
)

// cost is what a record counts for besides its bytes.
const cost = 12

func create(t *testing.T, sectors int) *disk.Disk {
	t.Helper()
	d, e := disk.New(sectors)
	if e != api.OK {
		t.Fatalf("disk.New(%d): %v", sectors, e)
	}
	return d
}

func format(t *testing.T, d *disk.Disk, from, n int) *wal.Log {
	t.Helper()
	l, e := wal.Format(d, from, n)
	if e != api.OK || l == nil {
		t.Fatalf("Format(%d, %d): %v, %v", from, n, l, e)
	}
	return l
}

func open(t *testing.T, d *disk.Disk, from, n int) *wal.Log {
	t.Helper()
	l, e := wal.Open(d, from, n)
	if e != api.OK || l == nil {
		t.Fatalf("Open(%d, %d): %v, %v", from, n, l, e)
	}
	return l
}

func add(t *testing.T, l *wal.Log, records ...string) {
	t.Helper()
	for _, rec := range records {
		if e := l.Append([]byte(rec)); e != api.OK {
			t.Fatalf("Append of %d bytes: %v", len(rec), e)
		}
	}
}

func sync(t *testing.T, l *wal.Log) {
	t.Helper()
	if e := l.Sync(); e != api.OK {
		t.Fatal("Sync:", e)
	}
}

func reset(t *testing.T, l *wal.Log) {
	t.Helper()
	if e := l.Reset(); e != api.OK {
		t.Fatal("Reset:", e)
	}
}

// texts returns the records of a log.
func texts(l *wal.Log) []string {
	var all []string
	for _, rec := range l.Records() {
		all = append(all, string(rec))
	}
	return all
}

// expect checks the records of a log, and what follows from them.
func expect(t *testing.T, l *wal.Log, n int, want ...string) {
	t.Helper()
	if got := texts(l); !slices.Equal(got, want) {
		t.Fatalf("Records: %q, want %q", got, want)
	}
	if got := l.Room(); got != room(n, want) {
		t.Fatalf("Room: %d, want %d", got, room(n, want))
	}
	if got := l.Synced(); got < 0 || got > len(want) {
		t.Fatalf("Synced: %d of %d records", got, len(want))
	}
}

// room returns the room of a log of n sectors with some records.
func room(n int, records []string) int {
	left := 64 * (n - 2)
	for _, rec := range records {
		left -= len(rec) + cost
	}
	return max(-1, min(left-cost, 4000))
}

// lost returns a copy of a disk after a power failure that lost all unflushed writes.
func lost(d *disk.Disk) *disk.Disk {
	c := d.Clone()
	c.Fuse(0)
	c.Restart(nil)
	return c
}

// fill writes all sectors of a disk, durably.
func fill(t *testing.T, d *disk.Disk, b func(k int) []byte) {
	t.Helper()
	for k := range d.Len() {
		if e := d.Write(k, b(k)); e != api.OK {
			t.Fatalf("Write(%d): %v", k, e)
		}
	}
	if e := d.Flush(); e != api.OK {
		t.Fatal("Flush:", e)
	}
}

// contents returns the bytes of the sectors from to until - 1.
func contents(t *testing.T, d *disk.Disk, from, until int) []byte {
	t.Helper()
	var all []byte
	for k := from; k < until; k++ {
		b, e := d.Read(k)
		if e != api.OK {
			t.Fatalf("Read(%d): %v", k, e)
		}
		all = append(all, b...)
	}
	return all
}

// places are arguments from and n that are no region of a disk with 10 sectors.
var places = [][2]int{
	{0, 3}, {0, 0}, {0, -1}, {0, math.MinInt}, {0, 11}, {0, math.MaxInt}, {5, 3},
	{-1, 4}, {-1, 5}, {-4, 10}, {math.MinInt, 4}, {math.MinInt, math.MinInt}, {-1, math.MaxInt}, {-math.MaxInt, math.MaxInt},
	{7, 4}, {1, 10}, {10, 4}, {11, 4}, {10, 0}, {math.MaxInt, 4}, {math.MaxInt, math.MaxInt}, {math.MaxInt - 3, 4}, {6, math.MaxInt - 5},
}

// P4.1, P4.5: Format returns a log without records; all regions of a disk can be formatted.
func TestFormat(t *testing.T) {
	for _, sectors := range []int{4, 5, 10} {
		for from := range sectors {
			for n := 4; from+n <= sectors; n++ {
				d := create(t, sectors)
				l := format(t, d, from, n)
				expect(t, l, n)
				if l.Synced() != 0 {
					t.Error("Synced after Format:", l.Synced())
				}
				expect(t, open(t, lost(d), from, n), n)
				expect(t, open(t, d, from, n), n)
			}
		}
	}
}

// P4.1: Format works whatever the sectors had before, and however the power fails afterwards.
func TestFormatOverBytes(t *testing.T) {
	random := rand.New(rand.NewSource(1))
	for v := range 256 + 50 {
		d := create(t, 8)
		fill(t, d, func(int) []byte {
			b := bytes.Repeat([]byte{byte(v)}, 64)
			if v >= 256 {
				random.Read(b)
			}
			return b
		})
		l := format(t, d, 1, 6)
		expect(t, open(t, lost(d), 1, 6), 6)
		add(t, l, "a")
		sync(t, l)
		expect(t, open(t, lost(d), 1, 6), 6, "a")
	}
}

// P4.1: Format removes the log that was there, and those of other regions there.
func TestFormatOverLogs(t *testing.T) {
	for rounds := range 9 {
		for _, old := range [][2]int{{2, 6}, {2, 8}, {2, 4}, {3, 6}, {1, 6}, {0, 10}} {
			for _, long := range []bool{true, false} {
				d := create(t, 10)
				l := format(t, d, old[0], old[1])
				for range rounds {
					if l.Room() < 60 {
						reset(t, l)
					}
					add(t, l, "a", "bc")
					if long {
						add(t, l, strings.Repeat("d", 10))
					}
					sync(t, l)
				}
				l = format(t, d, 2, 6)
				expect(t, l, 6)
				expect(t, open(t, lost(d), 2, 6), 6)
				add(t, l, "e")
				sync(t, l)
				expect(t, open(t, lost(d), 2, 6), 6, "e")
			}
		}
	}
}

// P4.1, R2: the errors of Format, in their order, without a log.
func TestFormatErrors(t *testing.T) {
	d := create(t, 10)
	before := contents(t, d, 0, 10)
	for _, on := range []bool{true, false} {
		for _, p := range places {
			if l, e := wal.Format(d, p[0], p[1]); l != nil || e != api.ErrRange {
				t.Errorf("Format%v with power %v: %v, %v", p, on, l, e)
			}
		}
		if on && !bytes.Equal(contents(t, d, 0, 10), before) {
			t.Error("a refused Format wrote something")
		}
		d.Fuse(0)
	}
	for _, p := range [][2]int{{0, 4}, {0, 10}, {6, 4}} {
		if l, e := wal.Format(d, p[0], p[1]); l != nil || e != api.ErrPower {
			t.Errorf("Format%v without power: %v, %v", p, l, e)
		}
	}
}

// P4.1: Format returns ErrPower if the power goes off before it is done; otherwise the log is there.
func TestFormatInterrupted(t *testing.T) {
	for fuse := 0; ; fuse++ {
		d := create(t, 6)
		d.Fuse(fuse)
		l, e := wal.Format(d, 0, 6)
		if e == api.OK {
			if l == nil {
				t.Error("no log")
			}
			expect(t, open(t, lost(d), 0, 6), 6)
			if fuse == 0 {
				t.Error("Format without power")
			}
			return
		}
		if l != nil || e != api.ErrPower || d.On() {
			t.Fatalf("Format with a fuse of %d: %v, %v", fuse, l, e)
		}
	}
}

// P4.2: without a power failure, Open returns what was appended and synchronized, and all of it is durable.
func TestOpen(t *testing.T) {
	for _, want := range [][]string{
		nil, {""}, {"a"}, {"a", "b"}, {"", "", ""}, {"\x00"}, {strings.Repeat("\x00", 128)}, {strings.Repeat("\xff", 300), "x"},
		{strings.Repeat("a", 63), strings.Repeat("b", 64), strings.Repeat("c", 65)}, {strings.Repeat("d", 4000), "", strings.Repeat("e", 3999)},
		{strings.Repeat("f", 255), strings.Repeat("g", 256), strings.Repeat("h", 257)},
	} {
		d := create(t, 150)
		l := format(t, d, 3, 140)
		for _, rec := range want {
			add(t, l, rec)
		}
		sync(t, l)
		for range 3 {
			l = open(t, d, 3, 140)
			expect(t, l, 140, want...)
			if l.Synced() != len(want) {
				t.Errorf("Synced after Open: %d of %d", l.Synced(), len(want))
			}
			expect(t, open(t, lost(d), 3, 140), 140, want...)
		}
		add(t, l, "more")
		sync(t, l)
		expect(t, open(t, d, 3, 140), 140, append(slices.Clone(want), "more")...)
	}
}

// P4.2, R2: the errors of Open, in their order, without a log.
func TestOpenErrors(t *testing.T) {
	d := create(t, 10)
	format(t, d, 6, 4)
	before := contents(t, d, 0, 10)
	for _, on := range []bool{true, false} {
		for _, p := range places {
			if l, e := wal.Open(d, p[0], p[1]); l != nil || e != api.ErrRange {
				t.Errorf("Open%v with power %v: %v, %v", p, on, l, e)
			}
		}
		want := api.ErrForm
		if !on {
			want = api.ErrPower
		}
		for _, p := range [][2]int{{0, 4}, {0, 6}, {2, 4}} {
			if l, e := wal.Open(d, p[0], p[1]); l != nil || e != want {
				t.Errorf("Open%v of zero bytes with power %v: %v, %v", p, on, l, e)
			}
		}
		if on && !bytes.Equal(contents(t, d, 0, 10), before) {
			t.Error("a refused Open wrote something")
		}
		d.Fuse(0)
	}
	if l, e := wal.Open(d, 6, 4); l != nil || e != api.ErrPower {
		t.Errorf("Open without power: %v, %v", l, e)
	}
}

// P4.2: Open returns ErrPower if the power goes off before it is done, and changes nothing then.
func TestOpenInterrupted(t *testing.T) {
	d := create(t, 6)
	l := format(t, d, 0, 6)
	add(t, l, "a", "b")
	sync(t, l)
	for fuse := 0; ; fuse++ {
		c := d.Clone()
		c.Fuse(fuse)
		l, e := wal.Open(c, 0, 6)
		expect(t, open(t, lost(c), 0, 6), 6, "a", "b")
		if e == api.OK && fuse > 0 {
			expect(t, l, 6, "a", "b")
			return
		}
		if l != nil || e != api.ErrPower {
			t.Fatalf("Open with a fuse of %d: %v, %v", fuse, l, e)
		}
	}
}

// P4.2, R1: whatever a region has, Open does not panic, and reads nothing behind the region.
func TestOpenGarbage(t *testing.T) {
	random := rand.New(rand.NewSource(2))
	for i := range 3000 {
		d := create(t, 12)
		l := format(t, d, 0, 12)
		add(t, l, strings.Repeat("a", 100), strings.Repeat("b", 300), strings.Repeat("c", 100))
		sync(t, l)
		for range 1 + random.Intn(3) {
			k, at := random.Intn(12), random.Intn(64)
			b, _ := d.Read(k)
			b[at] = byte(random.Intn(256))
			b[63-at] = b[at]
			d.Write(k, b)
		}
		for _, n := range []int{4, 7, 12} {
			l, e := wal.Open(d, 0, n)
			if e != api.OK && (l != nil || e != api.ErrForm) {
				t.Fatalf("case %d: %v, %v", i, l, e)
			}
			if e == api.OK {
				l.Append([]byte("d"))
				l.Sync()
				l.Records()
				l.Room()
				l.Reset()
			}
		}
	}
}

// P4.3, R2: the errors of Append, in their order; they change nothing.
func TestAppendErrors(t *testing.T) {
	d := create(t, 100)
	l := format(t, d, 0, 100)
	long := make([]byte, 4001)
	add(t, l, "a", strings.Repeat("b", 4000), strings.Repeat("c", 2100))
	sync(t, l)
	want := texts(l)
	free := l.Room()
	if free != 64*98-1-4000-2100-4*cost {
		t.Fatal("Room:", free)
	}
	for _, on := range []bool{true, false} {
		for _, x := range []struct {
			size int
			want api.Errno
		}{{4001, api.ErrLimit}, {5000, api.ErrLimit}, {1 << 20, api.ErrLimit}, {4000, api.ErrFull}, {free + 1, api.ErrFull}} {
			if e := l.Append(make([]byte, x.size)); e != x.want {
				t.Errorf("Append of %d bytes with power %v: %v", x.size, on, e)
			}
		}
		if !on {
			for _, rec := range [][]byte{nil, {}, {1}, long[:free]} {
				if e := l.Append(rec); e != api.ErrPower {
					t.Errorf("Append of %d bytes without power: %v", len(rec), e)
				}
			}
		}
		expect(t, l, 100, want...)
		d.Fuse(0)
	}
	d.Restart(nil)
	l = open(t, d, 0, 100)
	expect(t, l, 100, want...)
	if e := l.Append(long[:free]); e != api.OK {
		t.Error("Append of what fits:", e)
	}
	if e := l.Append(nil); e != api.ErrFull {
		t.Error("Append to a full log:", e)
	}
	if e := l.Append(long); e != api.ErrLimit {
		t.Error("Append of a long record to a full log:", e)
	}
}

// P4.3: records are added at the end, equal ones too.
func TestAppendOrder(t *testing.T) {
	d := create(t, 20)
	l := format(t, d, 0, 20)
	want := []string{"b", "a", "b", "", "b", "a", ""}
	for i, rec := range want {
		add(t, l, rec)
		expect(t, l, 20, want[:i+1]...)
		if i%2 == 1 {
			sync(t, l)
		}
	}
	sync(t, l)
	expect(t, open(t, d, 0, 20), 20, want...)
}

// P4.3, R4: Append neither keeps nor changes its argument, nor what is behind it.
func TestAppendSharesNothing(t *testing.T) {
	d := create(t, 20)
	l := format(t, d, 0, 20)
	whole := []byte("abcdefgh")
	if e := l.Append(whole[:3]); e != api.OK {
		t.Fatal(e)
	}
	sync(t, l)
	if e := l.Append(whole[2:5]); e != api.OK {
		t.Fatal(e)
	}
	if string(whole) != "abcdefgh" {
		t.Errorf("Append changed its argument: %q", whole)
	}
	clear(whole)
	expect(t, l, 20, "abc", "cde")
	sync(t, l)
	expect(t, open(t, d, 0, 20), 20, "abc", "cde")
}

// P4.4: Sync and Reset make durable what they do.
func TestSyncAndReset(t *testing.T) {
	d := create(t, 20)
	l := format(t, d, 4, 8)
	var want []string
	for i := range 40 {
		rec := strings.Repeat(string(rune('a'+i%26)), i)
		if l.Room() < i {
			reset(t, l)
			want = nil
			expect(t, l, 8)
			expect(t, open(t, lost(d), 4, 8), 8)
			if i%3 == 0 {
				reset(t, l)
			}
		}
		add(t, l, rec)
		want = append(want, rec)
		sync(t, l)
		if i%5 == 0 {
			sync(t, l)
		}
		expect(t, l, 8, want...)
		expect(t, open(t, lost(d), 4, 8), 8, want...)
	}
}

// P4.4: Reset removes records that are not durable yet, too, and they do not come back.
func TestResetOfUnsynced(t *testing.T) {
	d := create(t, 8)
	l := format(t, d, 0, 8)
	add(t, l, "a")
	sync(t, l)
	add(t, l, "b")
	reset(t, l)
	expect(t, l, 8)
	expect(t, open(t, lost(d), 0, 8), 8)
	sync(t, l)
	expect(t, open(t, lost(d), 0, 8), 8)
	add(t, l, "c")
	sync(t, l)
	expect(t, open(t, lost(d), 0, 8), 8, "c")
}

// P4.4, R2: Sync and Reset return ErrPower if the power is off or goes off before they are done; then the log is what it was.
func TestSyncAndResetInterrupted(t *testing.T) {
	for name, do := range map[string]func(l *wal.Log) api.Errno{"Sync": (*wal.Log).Sync, "Reset": (*wal.Log).Reset} {
		for fuse := 0; ; fuse++ {
			d := create(t, 10)
			l := format(t, d, 0, 10)
			add(t, l, "a", "b")
			sync(t, l)
			add(t, l, strings.Repeat("c", 200))
			d.Fuse(fuse)
			e := do(l)
			if e == api.OK {
				if fuse == 0 {
					t.Errorf("%s without power", name)
				}
				break
			}
			if e != api.ErrPower || l.Synced() < 2 {
				t.Fatalf("%s with a fuse of %d: %v, Synced %d", name, fuse, e, l.Synced())
			}
			expect(t, l, 10, "a", "b", strings.Repeat("c", 200))
			if e := do(l); e != api.ErrPower {
				t.Errorf("%s without power: %v", name, e)
			}
			if e := l.Append(nil); e != api.ErrPower {
				t.Errorf("Append without power: %v", e)
			}
			d.Restart(nil)
			expect(t, l, 10, "a", "b", strings.Repeat("c", 200))
		}
	}
	d := create(t, 4)
	l := format(t, d, 0, 4)
	d.Fuse(0)
	if e := l.Sync(); e != api.ErrPower {
		t.Error("Sync of nothing without power:", e)
	}
	if e := l.Reset(); e != api.ErrPower {
		t.Error("Reset of nothing without power:", e)
	}
}

// P4.5: Synced is 0 after Format and Reset, and all records after Open and Sync; Append does not lessen it.
func TestSynced(t *testing.T) {
	d := create(t, 10)
	l := format(t, d, 0, 10)
	check := func(least int) {
		t.Helper()
		if got := l.Synced(); got < least || got > len(l.Records()) {
			t.Errorf("Synced: %d, want %d to %d", got, least, len(l.Records()))
		}
	}
	check(0)
	add(t, l, "a", "b")
	check(0)
	sync(t, l)
	check(2)
	add(t, l, "c")
	check(2)
	l.Append(make([]byte, 5000))
	check(2)
	sync(t, l)
	check(3)
	l = open(t, d, 0, 10)
	check(3)
	add(t, l, "d")
	check(3)
	reset(t, l)
	check(0)
	add(t, l, "e")
	check(0)
}

// P4.5, R4: what Records returns is new memory at every level.
func TestRecordsSharesNothing(t *testing.T) {
	d := create(t, 10)
	l := format(t, d, 0, 10)
	add(t, l, "abc", "def", "")
	sync(t, l)
	for range 2 {
		for i, rec := range l.Records() {
			clear(rec[:cap(rec)])
			if i == 0 {
				_ = append(rec, "xyz"...)
			}
		}
		all := l.Records()
		clear(all[:cap(all)])
		expect(t, l, 10, "abc", "def", "")
		first := l.Records()
		clear(first[0][:cap(first[0])])
		if string(first[1]) != "def" {
			t.Error("two records of a result share memory")
		}
		l = open(t, d, 0, 10)
	}
	add(t, l, "g")
	sync(t, l)
	expect(t, open(t, d, 0, 10), 10, "abc", "def", "", "g")
}

// P4.5: Records, Synced and Room need no power, and no Open after a restart.
func TestWithoutPower(t *testing.T) {
	d := create(t, 10)
	l := format(t, d, 0, 10)
	add(t, l, "a", "b")
	sync(t, l)
	add(t, l, "c")
	synced := l.Synced()
	check := func() {
		t.Helper()
		expect(t, l, 10, "a", "b", "c")
		if l.Synced() != synced {
			t.Error("Synced:", l.Synced())
		}
	}
	d.Fuse(0)
	check()
	d.Restart(nil)
	check()
	again := open(t, d, 0, 10)
	reset(t, again)
	check()
}

// P4.3, P4.5: the examples of the document.
func TestExamples(t *testing.T) {
	d := create(t, 100)
	l := format(t, d, 0, 4)
	for _, x := range []struct{ size, room int }{{-1, 116}, {100, 4}, {4, -1}} {
		if x.size >= 0 {
			add(t, l, strings.Repeat("a", x.size))
		}
		if l.Room() != x.room {
			t.Errorf("Room after %d bytes: %d, want %d", x.size, l.Room(), x.room)
		}
	}
	if e := l.Append(nil); e != api.ErrFull {
		t.Error("Append of no bytes:", e)
	}
	if l, e := wal.Format(d, 0, 3); l != nil || e != api.ErrRange {
		t.Error("Format of 3 sectors:", e)
	}
	if l, e := wal.Open(d, 50, 10); l != nil || e != api.ErrForm {
		t.Error("Open of sectors that were never written:", e)
	}
	if l := format(t, d, 0, 100); l.Room() != 4000 {
		t.Error("Room of 100 sectors:", l.Room())
	}
}

// P4.3, P4.5, P4.9: Room is the greatest length that is accepted, until nothing fits any more, before and after failures.
func TestRoom(t *testing.T) {
	random := rand.New(rand.NewSource(3))
	for i := range 300 {
		n := 4 + i%40
		if i%50 == 49 {
			n = 70 + random.Intn(100)
		}
		d := create(t, n)
		l := format(t, d, 0, n)
		var want []string
		for l.Room() >= 0 {
			free := l.Room()
			if e := l.Append(make([]byte, free+1)); free < 4000 && e != api.ErrFull || free == 4000 && e != api.ErrLimit {
				t.Fatalf("Append of %d bytes with a room of %d: %v", free+1, free, e)
			}
			rec := strings.Repeat(string(rune('a'+len(want)%26)), size(random, free))
			add(t, l, rec)
			want = append(want, rec)
			expect(t, l, n, want...)
			if random.Intn(3) == 0 {
				sync(t, l)
				d.Fuse(0)
				d.Restart(nil)
				l = open(t, d, 0, n)
				expect(t, l, n, want...)
			}
		}
		if e := l.Append(nil); e != api.ErrFull {
			t.Fatal("Append to a full log:", e)
		}
		sync(t, l)
		expect(t, open(t, lost(d), 0, n), n, want...)
	}
}

// size returns a length from 0 to most; the greatest and small ones are frequent.
func size(random *rand.Rand, most int) int {
	switch random.Intn(5) {
	case 0:
		return most
	case 1:
		return 0
	case 2:
		return random.Intn(min(most, 70) + 1)
	}
	return random.Intn(min(most, 600) + 1)
}

// P4.9: the records that fit exactly are accepted: the shortest ones, the longest ones, and one after another until the last byte.
func TestCapacity(t *testing.T) {
	for _, x := range []struct{ n, size, count, rest int }{
		{4, 0, 10, -1}, {5, 0, 16, -1}, {4, 116, 1, -1}, {4, 52, 2, -1}, {4, 20, 4, -1}, {8, 1, 29, -1}, {100, 4000, 1, 2248}, {4096, 4000, 65, 1224}, {4096, 0, 21834, -1},
	} {
		d := create(t, x.n)
		l := format(t, d, 0, x.n)
		var want []string
		for i := range x.count {
			rec := strings.Repeat(string(rune('a'+i%26)), x.size)
			add(t, l, rec)
			want = append(want, rec)
		}
		if x.rest >= 0 {
			rec := strings.Repeat("z", x.rest)
			add(t, l, rec)
			want = append(want, rec)
		}
		if e := l.Append(nil); e != api.ErrFull {
			t.Errorf("%v: Append to a full log: %v", x, e)
		}
		sync(t, l)
		expect(t, open(t, lost(d), 0, x.n), x.n, want...)
		reset(t, l)
		expect(t, open(t, lost(d), 0, x.n), x.n)
	}
}
