package store_test

import (
	"math/rand"
	"slices"
	"strconv"
	"strings"
	"testing"

	"rollbook/api"
	"rollbook/disk"
	"rollbook/store"
	"rollbook/wal"
)

// tracked is a store, and what is promised of it.
type tracked struct {
	s *store.Store
	// version is the version that was acknowledged last, with the map m.
	version int
	m       model
	// trying: a Commit was not completed, so the next version may be there, with the map next.
	trying bool
	next   model
}

// commit performs a commit, and reports whether the power stayed on until it was done. No other error is expected.
func (k *tracked) commit(t *testing.T, l []api.Edit) bool {
	t.Helper()
	next := k.m.after(l)
	e := k.s.Commit(l)
	switch e {
	case api.OK:
		k.version, k.m = k.version+1, next
	case api.ErrPower:
		k.trying, k.next = true, next
	default:
		t.Fatalf("Commit of %d edits of the size %d, the map has the size %d: %v", len(l), sizeOf(l), next.size(), e)
	}
	expect(t, k.s, k.version, k.m)
	return e == api.OK
}

// compact compacts the store, and reports whether the power stayed on until it was done.
func (k *tracked) compact(t *testing.T) bool {
	t.Helper()
	e := k.s.Compact()
	if e != api.OK && e != api.ErrPower {
		t.Fatalf("Compact: %v", e)
	}
	expect(t, k.s, k.version, k.m)
	return e == api.OK
}

// recover opens the store of a disk after a failure, and checks what it has.
func (k *tracked) recover(t *testing.T, d *disk.Disk) *tracked {
	t.Helper()
	s, e := store.Open(d)
	if e != api.OK || s == nil {
		t.Fatalf("Open after a failure: %v", e)
	}
	if k.trying && s.Version() == k.version+1 {
		expect(t, s, k.version+1, k.next)
		return &tracked{s: s, version: k.version + 1, m: k.next}
	}
	expect(t, s, k.version, k.m)
	return &tracked{s: s, version: k.version, m: k.m}
}

// formatted returns a new store.
func formatted(t *testing.T, d *disk.Disk) *tracked {
	t.Helper()
	return &tracked{s: format(t, d), m: model{}}
}

// script is a list of steps: "+" and a key and a value that "=" separates, or "-" and a key, for a commit of one edit; more of them with "," between them for a commit of several; "" for one without edits; "*" for Compact.
type script []string

// run performs a script until the power fails; it reports whether the script is complete. The value of each edit has a number of bytes, and tag is repeated to make so many.
func (s script) run(t *testing.T, k *tracked, tag string) bool {
	t.Helper()
	for _, step := range s {
		if step == "*" {
			if !k.compact(t) {
				return false
			}
			continue
		}
		if !k.commit(t, edits(step, tag)) {
			return false
		}
	}
	return true
}

// edits returns the edits of a step.
func edits(step, tag string) []api.Edit {
	var l []api.Edit
	for part := range strings.SplitSeq(step, ",") {
		switch key, size, _ := strings.Cut(part, "="); {
		case part == "":
		case part[0] == '-':
			l = append(l, remove(part[1:]))
		default:
			n, _ := strconv.Atoi(size)
			l = append(l, put(key[1:], strings.Repeat(tag+" ", n)[:n]))
		}
	}
	return l
}

// scripts are what is interrupted, on disks with a capacity of 256 bytes.
var scripts = []script{
	{"+a=20"},
	{""},
	{"+a=95,+b=95,-c", "-a"},
	{"*"},
	{"+c=30", "*", "+c=31"},
	{"+a=200,-b,-c", "+a=201", "+a=202", "+a=203", "+a=204", "+a=205"},
	{"-a,-b,-c", "*", "*"},
}

// outcomes returns what may become of the unflushed writes of a disk: each torn at the same byte, and different sets of them kept. The greater every, the fewer of them.
func outcomes(sectors, every int) [][]api.Torn {
	all := [][]api.Torn{nil}
	each := func(f func(k int) api.Torn) {
		var l []api.Torn
		for k := range sectors {
			torn := f(k)
			torn.Sector = k
			l = append(l, torn)
		}
		all = append(all, l)
	}
	for b := 1; b <= 64; b += every {
		each(func(k int) api.Torn { return api.Torn{Bytes: b} })
	}
	for writes := 1; writes <= 3; writes++ {
		each(func(k int) api.Torn { return api.Torn{Writes: writes, Bytes: 9 * writes} })
	}
	for i := 1; i <= sectors; i *= 2 {
		each(func(k int) api.Torn { return api.Torn{Writes: 9 * (k / i % 2)} })
		each(func(k int) api.Torn { return api.Torn{Writes: 9 * (1 - k/i%2), Bytes: 5} })
	}
	return all
}

// chance returns any outcome of the unflushed writes of a disk.
func chance(random *rand.Rand, sectors int) []api.Torn {
	var l []api.Torn
	for _, k := range random.Perm(sectors) {
		switch random.Intn(4) {
		case 0:
			l = append(l, api.Torn{Sector: k, Writes: 99})
		case 1:
			l = append(l, api.Torn{Sector: k, Writes: random.Intn(3), Bytes: random.Intn(65)})
		case 2:
			l = append(l, api.Torn{Sector: k, Bytes: random.Intn(9)})
		}
	}
	return l
}

// contents returns all bytes of a disk.
func contents(t *testing.T, d *disk.Disk) string {
	t.Helper()
	var b strings.Builder
	for k := range d.Len() {
		sector, e := d.Read(k)
		if e != api.OK {
			t.Fatalf("Read(%d): %v", k, e)
		}
		b.Write(sector)
	}
	return b.String()
}

// moment is a disk that was restarted, and what its store has.
type moment struct {
	d *disk.Disk
	k *tracked
}

// failures returns the moments after each failure of a script and each outcome, one for each different content of the disk.
func failures(t *testing.T, m moment, s script, tag string, ends [][]api.Torn, seen map[string]bool) []moment {
	t.Helper()
	var next []moment
	for fuse, done := 0, false; !done; fuse++ {
		d := m.d.Clone()
		k := m.k.recover(t, d)
		d.Fuse(fuse)
		done = s.run(t, k, tag)
		d.Fuse(0)
		for _, end := range ends {
			c := d.Clone()
			c.Restart(end)
			after := k.recover(t, c)
			key := contents(t, c)
			if !seen[key] {
				seen[key] = true
				next = append(next, moment{c, after})
			}
		}
	}
	return next
}

// P6.8, P6.9: failures one after the other, at each write or flush of a script and with many outcomes: the first one of every script, the second one and the third one of a script for some of the moments after the one before.
func TestFailures(t *testing.T) {
	rare := []int{1, 37, 151}
	for _, begin := range []script{
		{},
		{"+a=50,+b=60", "+c=70"},
		{"+a=90,+b=60", "+c=70", "+a=91", "+a=92", "+a=93"},
		{"+a=90,+b=60", "+c=70", "+a=91", "+a=92", "+a=93", "+a=94", "+a=95", "*", "+b=20"},
	} {
		d := create(t, 32)
		k := formatted(t, d)
		begin.run(t, k, "begin")
		now := []moment{{lost(d), k}}
		for depth := range 3 {
			seen := map[string]bool{}
			var next []moment
			ends := outcomes(32, 1+3*depth)
			for i, m := range now {
				if i%rare[depth] == 0 {
					s := scripts[i/rare[depth]%len(scripts)]
					next = append(next, failures(t, m, s, strconv.Itoa(depth), ends, seen)...)
				}
				for j := 0; depth == 0 && j < len(scripts); j++ {
					next = append(next, failures(t, m, scripts[j], strconv.Itoa(depth), ends, seen)...)
				}
			}
			now = next
		}
	}
}

// results counts the failures of a script after which its last commit is there, and those after which it is not.
func results(t *testing.T, m moment, s script, every int) (before, after int) {
	t.Helper()
	for _, next := range failures(t, m, s, "x", outcomes(m.d.Len(), every), map[string]bool{}) {
		if next.k.version == m.k.version {
			before++
		} else {
			after++
		}
	}
	return before, after
}

// P6.8: a commit that is interrupted is performed or not, and both happen: one that is added to a log, one of several records, and those that rewrite the store.
func TestFailureOfCommit(t *testing.T) {
	for _, c := range []struct {
		sectors, every, counts int
		begin                  script
		commit                 string
	}{
		{32, 1, 12, script{"+a=20"}, "+a=30,-b,+c=40"},
		{32, 1, 4, script{"+a=150", "+a=151", "+a=152", "+a=153", "+a=154"}, "+a=155"},
		{700, 8, 4, script{"+a=900,+b=900,+c=900,+d=900,+e=900"}, "+a=901,+b=901,+c=901,+d=901,+e=901"},
	} {
		for i := range c.counts {
			d := create(t, c.sectors)
			k := formatted(t, d)
			c.begin.run(t, k, strconv.Itoa(i))
			for range i {
				k.commit(t, edits(c.commit, "y"))
			}
			before, after := results(t, moment{d, k}, script{c.commit}, c.every)
			if before == 0 || after == 0 {
				t.Errorf("%d sectors, %d commits: %d failures leave a commit undone, and %d do not", c.sectors, i, before, after)
			}
		}
	}
}

// P6.8: a failure of Compact leaves the map and the version.
func TestFailureOfCompact(t *testing.T) {
	for i := range 12 {
		d := create(t, 40)
		k := formatted(t, d)
		for j := range i {
			k.commit(t, []api.Edit{put("k"+strconv.Itoa(j%3), strings.Repeat("v", 50+j))})
		}
		if before, after := results(t, moment{d, k}, script{"*"}, 1); before == 0 || after != 0 {
			t.Errorf("%d commits: %d failures of Compact, %d of them change the version", i, before, after)
		}
		if before, _ := results(t, moment{d, k}, script{"*", "*", "*"}, 5); before == 0 {
			t.Errorf("%d commits: no failure of Compact", i)
		}
	}
}

// P6.8: failures before the first commit.
func TestFailureOfNewStore(t *testing.T) {
	for _, s := range []script{{"*"}, {"+a=9"}, {"*", "+a=9", "*"}, {"", ""}} {
		for _, end := range outcomes(33, 1) {
			for fuse := range 8 {
				d := create(t, 33)
				k := formatted(t, d)
				d.Fuse(fuse)
				s.run(t, k, "x")
				d.Fuse(0)
				d.Restart(end)
				k = k.recover(t, d)
				s.run(t, k, "y")
				k.recover(t, lost(d))
			}
		}
	}
}

// randomEdits returns edits of at most a size that leave a map of at most this size.
func randomEdits(random *rand.Rand, m model, capacity int) []api.Edit {
	var l []api.Edit
	most := capacity
	if random.Intn(3) > 0 {
		most = random.Intn(capacity)
	}
	for range random.Intn(2 + capacity/60) {
		e := put("k"+strconv.Itoa(random.Intn(12)), strings.Repeat(strconv.Itoa(random.Intn(90)+10), 500)[:random.Intn(1+min(1000, capacity))])
		switch random.Intn(4) {
		case 0:
			e = remove(e.Key)
		case 1:
			e.Value = e.Value[:min(len(e.Value), 9)]
		}
		if next := append(l, e); sizeOf(next) <= most && m.after(next).size() <= capacity {
			l = next
		}
	}
	return l
}

// P6.3, P6.8, P6.9: many failures of long runs on disks of different sizes, some of them directly after a restart.
func TestManyFailures(t *testing.T) {
	for seed := range 60 {
		random := rand.New(rand.NewSource(int64(seed)))
		sectors := 32 + random.Intn(30)
		if seed%12 == 0 {
			sectors = 500 + random.Intn(400)
		}
		d := create(t, sectors)
		k := formatted(t, d)
		acknowledged := 0
		for range 150 {
			if random.Intn(4) == 0 {
				d.Fuse(random.Intn(sectors / 3))
			}
			if random.Intn(8) == 0 {
				k.compact(t)
			} else {
				k.commit(t, randomEdits(random, k.m, 8*sectors))
			}
			if k.version < acknowledged {
				t.Fatalf("version %d was acknowledged, version %d is there", acknowledged, k.version)
			}
			acknowledged = k.version
			for !d.On() {
				d.Restart(chance(random, sectors))
				if random.Intn(4) == 0 {
					d.Fuse(random.Intn(2))
				}
				if d.On() {
					k = k.recover(t, d)
				}
			}
			d.Fuse(-1)
		}
	}
}

// shapes are commits that leave a map of about the capacity, and whose edits together have the greatest size that is permitted; i is the number of the commit.
func shapes(capacity int) map[string]func(i int) []api.Edit {
	tiny := func(i int) []api.Edit {
		var l []api.Edit
		for k := range capacity / 10 {
			l = append(l, put(string([]byte{byte(k), byte(k >> 8)}), ""))
		}
		return l
	}
	return map[string]func(i int) []api.Edit{
		"tiny pairs":   tiny,
		"no keys":      func(i int) []api.Edit { return slices.Repeat([]api.Edit{remove("")}, capacity/8) },
		"one edit":     func(i int) []api.Edit { return []api.Edit{put("", strings.Repeat("v", min(1000, capacity-8)))} },
		"no edits":     func(i int) []api.Edit { return nil },
		"other values": func(i int) []api.Edit { return filling(capacity, 1000, strconv.Itoa(i)) },
		"short values": func(i int) []api.Edit { return filling(capacity, 3, strconv.Itoa(i)) },
		"127 bytes":    func(i int) []api.Edit { return filling(capacity, 127, strconv.Itoa(i)) },
		"128 bytes":    func(i int) []api.Edit { return filling(capacity, 128, strconv.Itoa(i)) },
		"mixed": func(i int) []api.Edit {
			if i%3 > 0 {
				return tiny(i)
			}
			return slices.Repeat([]api.Edit{remove(strings.Repeat("k", 60))}, capacity/68)
		},
	}
}

// filling returns edits with values of a size or less that leave a map whose size is the capacity.
func filling(capacity, size int, tag string) []api.Edit {
	var l []api.Edit
	for k := 0; capacity >= 10; k++ {
		n := min(size, capacity-10)
		if capacity-10-n < 10 {
			n = min(1000, capacity-10)
		}
		l = append(l, put(string([]byte{byte(k), byte(k >> 8)}), strings.Repeat(tag+" ", n)[:n]))
		capacity -= 10 + n
	}
	return l
}

// P6.3: a store never has too little space: commits of the greatest size that is permitted, one after the other, with different maps.
func TestAlwaysSpace(t *testing.T) {
	for _, sectors := range []int{32, 33, 37, 64, 129, 512, 1001, 4096} {
		for name, edits := range shapes(8 * sectors) {
			d := create(t, sectors)
			s := format(t, d)
			rounds := 40
			if sectors > 1000 {
				rounds = 9
			}
			m := model{}
			for i := range rounds {
				l := edits(i)
				if e := s.Commit(l); e != api.OK {
					t.Fatalf("%d sectors, %s: Commit %d, of the size %d: %v", sectors, name, i, sizeOf(l), e)
				}
				m = m.after(l)
			}
			expect(t, s, rounds, m)
			compact(t, s)
			expect(t, open(t, lost(d)), rounds, m)
		}
	}
}

// P6.2, P6.3: values of each size one after the other, which fill the disk up to different places.
func TestAllSizes(t *testing.T) {
	for _, sectors := range []int{32, 33} {
		for size := range 8*sectors - 8 {
			d := create(t, sectors)
			k := formatted(t, d)
			for i := range 14 {
				n := size
				if i%5 == 4 {
					n = size / 4
				}
				k.commit(t, edits("+="+strconv.Itoa(n), strconv.Itoa(i)))
				k = k.recover(t, d)
			}
		}
	}
}

// P6.3: nor does it have too little space after many failures, each of which leaves something behind.
func TestSpaceAfterFailures(t *testing.T) {
	for _, sectors := range []int{32, 45, 600} {
		for _, edits := range shapes(8 * sectors) {
			d := create(t, sectors)
			k := formatted(t, d)
			ends := outcomes(sectors, 13)
			for i := range 60 {
				d.Fuse(i % 7)
				if i%5 == 4 {
					k.compact(t)
				} else {
					k.commit(t, edits(i))
				}
				d.Fuse(0)
				d.Restart(ends[i*7%len(ends)])
				k = k.recover(t, d)
			}
			k.commit(t, edits(60))
			k.compact(t)
			k.recover(t, lost(d))
		}
	}
}

// added returns the records of a step of a store: those that its log has after the step, and not before it.
func added(t *testing.T, d *disk.Disk, m model, s script) [][]byte {
	t.Helper()
	k := &tracked{s: open(t, d.Clone()), m: m}
	k.version = k.s.Version()
	before := k.s.Log
	n := len(before.Records())
	s.run(t, k, "")
	if k.s.Log == before {
		return k.s.Records()[n:]
	}
	return k.s.Records()
}

// interrupt adds records to a log, as an interruption may leave them: package wal promises that those that were added last may be missing, and no more.
func interrupt(t *testing.T, l *wal.Log, records [][]byte) {
	t.Helper()
	for _, rec := range records {
		if e := l.Append(rec); e != api.OK {
			t.Fatalf("Append of %d bytes: %v", len(rec), e)
		}
	}
	if e := l.Sync(); e != api.OK {
		t.Fatal("Sync:", e)
	}
}

// P6.8: a commit of several records of which the last ones are missing has no effect, and neither has one that is interrupted after it.
func TestPartsOfCommit(t *testing.T) {
	const long = "+a=999,+b=998,+c=997,+d=996,+e=995,+f=994,+g=993,+h=992,+i=991,+j=990"
	d := create(t, 1400)
	m := model{"x": "1", "a": "2"}
	commit(t, format(t, d), put("x", "1"), put("a", "2"))
	records := added(t, d, m, script{long})
	if len(records) < 3 {
		t.Fatalf("a commit has %d records", len(records))
	}
	for first := range records {
		for second := range records {
			c := d.Clone()
			interrupt(t, open(t, c).Log, records[:first])
			interrupt(t, open(t, c).Log, records[:second])
			k := (&tracked{version: 1, m: m}).recover(t, c)
			k.commit(t, edits("+y=3,-a", "z"))
			k = k.recover(t, c)
			k.commit(t, edits(long, "w"))
			k = k.recover(t, c)
			k.compact(t)
			k.recover(t, c)
		}
	}
	c := d.Clone()
	interrupt(t, open(t, c).Log, records[:2])
	interrupt(t, open(t, c).Log, records)
	expect(t, open(t, c), 2, m.after(edits(long, "")))
}

// P6.8: a map that is written into the log that is not in use has no effect before its last record.
func TestPartsOfMap(t *testing.T) {
	const long = "+a=999,+b=998,+c=997,+d=996,+e=995,+f=994,+g=993,+h=992,+i=991,+j=990"
	d := create(t, 1400)
	k := formatted(t, d)
	k.commit(t, edits(long, "old"))
	other := k.s.Log
	k.compact(t)
	if k.s.Log == other {
		t.Fatal("the log in use is the same as before")
	}
	records := added(t, d, k.m, script{"-a,-b,+x=500", "*"})
	if len(records) < 2 {
		t.Fatalf("a map has %d records", len(records))
	}
	for n := range records {
		interrupt(t, other, records[n:n+1])
		c := d.Clone()
		now := k
		if n == len(records)-1 {
			now = &tracked{version: 2, m: k.m.after(edits("-a,-b,+x=500", ""))}
		}
		now = now.recover(t, c)
		script{"+z=100", "*", long, "*", "-c"}.run(t, now, "new")
		now.recover(t, lost(c))
	}
}
