package wal_test

import (
	"bytes"
	"math/rand"
	"slices"
	"strconv"
	"strings"
	"testing"

	"rollbook/api"
	"rollbook/digest"
	"rollbook/disk"
	"rollbook/wal"
	"rollbook/wire"
)

// tracked is a log, and what is promised of it.
type tracked struct {
	l       *wal.Log
	from, n int
	// records are the records that P4.6 calls R, of which the first durable must survive.
	records []string
	durable int
	// resetting: a Reset was not completed, so there may be no records.
	resetting bool
}

// track returns a log that has been opened or formatted just now.
func track(l *wal.Log, from, n int) *tracked {
	return &tracked{l: l, from: from, n: n, records: texts(l), durable: l.Synced()}
}

func (k *tracked) append(rec string) api.Errno {
	e := k.l.Append([]byte(rec))
	if e == api.OK || e == api.ErrPower {
		k.records = append(k.records, rec)
	}
	k.durable = max(k.durable, k.l.Synced())
	return e
}

func (k *tracked) sync() api.Errno {
	e := k.l.Sync()
	if e == api.OK {
		k.durable = len(k.records)
	}
	k.durable = max(k.durable, k.l.Synced())
	return e
}

func (k *tracked) reset() api.Errno {
	e := k.l.Reset()
	if e == api.OK {
		k.records, k.durable = nil, 0
	}
	k.resetting = e == api.ErrPower
	return e
}

// allows reports whether Open may return some records after a failure.
func (k *tracked) allows(got []string) bool {
	if k.resetting && len(got) == 0 {
		return true
	}
	return len(got) >= k.durable && len(got) <= len(k.records) && slices.Equal(got, k.records[:len(got)])
}

// recover opens a log after a failure, and checks what it has.
func (k *tracked) recover(t *testing.T, d *disk.Disk) *tracked {
	t.Helper()
	l, e := wal.Open(d, k.from, k.n)
	if e != api.OK {
		t.Fatalf("Open after a failure: %v; %d records, %d durable", e, len(k.records), k.durable)
	}
	got := texts(l)
	if !k.allows(got) {
		t.Fatalf("after a failure: %q; of %q, %d durable, resetting %v", got, k.records, k.durable, k.resetting)
	}
	if l.Synced() != len(got) || l.Room() != room(k.n, got) {
		t.Fatalf("after a failure: %d of %d records durable, room %d", l.Synced(), len(got), l.Room())
	}
	return track(l, k.from, k.n)
}

// outcomes returns what may become of the unflushed writes of the sectors from to from + n - 1: each torn at each byte, and each set of few sectors kept.
func outcomes(from, n int) [][]api.Torn {
	all := [][]api.Torn{nil}
	each := func(torn api.Torn) []api.Torn {
		var l []api.Torn
		for k := range n {
			torn.Sector = from + k
			l = append(l, torn)
		}
		return l
	}
	for b := 1; b <= 64; b++ {
		all = append(all, each(api.Torn{Bytes: b}))
	}
	all = append(all, each(api.Torn{Writes: 1}), each(api.Torn{Writes: 1, Bytes: 30}), each(api.Torn{Writes: 2}))
	for set := range 1 << min(n, 5) {
		var kept, torn []api.Torn
		for k := range n {
			if set>>(k%5)&1 == 1 {
				kept = append(kept, api.Torn{Sector: from + k, Writes: 99})
				torn = append(torn, api.Torn{Sector: from + k, Writes: 99})
			} else {
				torn = append(torn, api.Torn{Sector: from + k, Bytes: 7})
			}
		}
		all = append(all, kept, torn)
	}
	return all
}

// chance returns any outcome of the unflushed writes of a disk.
func chance(random *rand.Rand, sectors int) []api.Torn {
	var l []api.Torn
	for _, k := range random.Perm(sectors) {
		switch random.Intn(4) {
		case 0:
			l = append(l, api.Torn{Sector: k, Writes: 99})
		case 1:
			l = append(l, api.Torn{Sector: k, Writes: random.Intn(3), Bytes: random.Intn(65)})
		case 2:
			l = append(l, api.Torn{Sector: k, Bytes: random.Intn(9)})
		}
	}
	return l
}

// script is a list of steps: a record to append, or "+" for Sync, or "-" for Reset.
type script []string

// run performs a script until a step returns ErrPower; it reports whether the script is complete.
func (s script) run(t *testing.T, k *tracked, tag string) bool {
	t.Helper()
	for _, step := range s {
		var e api.Errno
		switch step {
		case "+":
			e = k.sync()
		case "-":
			e = k.reset()
		default:
			e = k.append(strings.ReplaceAll(step, "?", tag))
		}
		if e == api.ErrPower {
			return false
		}
		if e != api.OK && e != api.ErrFull {
			t.Fatalf("step %q: %v", step, e)
		}
	}
	return true
}

// scripts are what is interrupted; a question mark stands for what tells the records of one failure from those of another one.
var scripts = []script{
	{"a?", "+"},
	{"b?", "c?", "+", "d?", "+"},
	{"e?" + strings.Repeat("e", 60), "", "+"},
	{"f?", "+", "g?", "-", "h?", "+"},
	{"-", "-"},
	{"i?", "-", "j?" + strings.Repeat("j", 80), "+"},
	{"k?", "+", "l?"},
}

// moment is a disk that was restarted, and what its log has.
type moment struct {
	d *disk.Disk
	k *tracked
}

// failures returns the moments after each failure of a script and each outcome, one for each different content of the region.
func failures(t *testing.T, m moment, s script, tag string, ends [][]api.Torn, seen map[string]bool) []moment {
	t.Helper()
	var next []moment
	for fuse, done := 0, false; !done; fuse++ {
		d := m.d.Clone()
		k := m.k.recover(t, d)
		d.Fuse(fuse)
		done = s.run(t, k, tag)
		d.Fuse(0)
		for _, end := range ends {
			c := d.Clone()
			c.Restart(end)
			after := k.recover(t, c)
			key := string(contents(t, c, 0, c.Len()))
			if !seen[key] {
				seen[key] = true
				next = append(next, moment{c, after})
			}
		}
	}
	return next
}

// P4.6, P4.7, P4.10: failures one after the other, at each write or flush of a script and with each outcome: the first one of every script, the second one of a script for each moment after the first one, the third one of some.
func TestFailures(t *testing.T) {
	const from, n = 1, 5
	ends := outcomes(from, n)
	rare := []int{1, len(scripts), 149}
	for _, begin := range []script{{}, {"x", strings.Repeat("y", 50), "+"}, {"x", "+", "-"}} {
		d := create(t, 7)
		k := track(format(t, d, from, n), from, n)
		begin.run(t, k, "")
		now := []moment{{lost(d), k}}
		for depth := range 3 {
			seen := map[string]bool{}
			var next []moment
			for i, m := range now {
				for j, s := range scripts {
					// From the second failure on there are too many moments for all scripts.
					if (i+j)%rare[depth] != 0 {
						continue
					}
					next = append(next, failures(t, m, s, strconv.Itoa(depth), ends, seen)...)
				}
			}
			now = next
		}
	}
}

// P4.6: a power failure after some complete calls, and during each of them, with the records of the document's example.
func TestFailureExample(t *testing.T) {
	for _, end := range outcomes(0, 6) {
		d := create(t, 6)
		l := format(t, d, 0, 6)
		add(t, l, "a", "b")
		sync(t, l)
		add(t, l, "c")
		d.Fuse(0)
		d.Restart(end)
		got := texts(open(t, d, 0, 6))
		if !slices.Equal(got, []string{"a", "b"}) && !slices.Equal(got, []string{"a", "b", "c"}) {
			t.Errorf("Restart(%v): %q", end, got)
		}
	}
}

// P4.6: what a failure left behind the records does not become a record later, even where it has the same length.
func TestFailureLeavesNothing(t *testing.T) {
	for _, size := range []int{0, 1, 20, 50, 52, 62, 64, 100} {
		for fuse := range 12 {
			for _, end := range outcomes(0, 8) {
				d := create(t, 8)
				k := track(format(t, d, 0, 8), 0, 8)
				script{"a", "+"}.run(t, k, "")
				d.Fuse(fuse)
				script{strings.Repeat("b", size), strings.Repeat("c", size), "d", "+"}.run(t, k, "")
				d.Fuse(0)
				d.Restart(end)
				k = k.recover(t, d)
				k.append(strings.Repeat("e", size))
				k.sync()
				k = k.recover(t, lost(d))
				if len(k.records) > 5 {
					t.Fatalf("too many records: %q", k.records)
				}
			}
		}
	}
}

// P4.7: a failure of Reset leaves the records, or none; what is not removed stays complete.
func TestResetFailure(t *testing.T) {
	none, some := 0, 0
	for fuse := range 9 {
		for _, end := range outcomes(2, 6) {
			for _, last := range []string{"", "+"} {
				d := create(t, 10)
				k := track(format(t, d, 2, 6), 2, 6)
				script{"a", strings.Repeat("b", 90), "+", "c"}.run(t, k, "")
				if last == "+" {
					k.sync()
				}
				d.Fuse(fuse)
				e := k.reset()
				d.Fuse(0)
				d.Restart(end)
				k = k.recover(t, d)
				if e == api.OK && len(k.records) > 0 {
					t.Fatalf("after a complete Reset: %q", k.records)
				}
				if len(k.records) == 0 {
					none++
				} else {
					some++
				}
				k.append("d")
				k.sync()
				k.recover(t, lost(d))
			}
		}
	}
	if none == 0 || some == 0 {
		t.Errorf("the failures do not reach both results: %d, %d", none, some)
	}
}

// P4.8: logs in different regions do not influence each other, whatever fails, and other sectors do not change.
func TestRegions(t *testing.T) {
	regions := [][2]int{{1, 4}, {5, 7}, {13, 5}, {18, 4}}
	for seed := range 60 {
		random := rand.New(rand.NewSource(int64(seed)))
		d := create(t, 24)
		fill(t, d, func(k int) []byte { return bytes.Repeat([]byte{byte(k + 1)}, 64) })
		outside := func() []byte {
			return slices.Concat(contents(t, d, 0, 1), contents(t, d, 12, 13), contents(t, d, 22, 24))
		}
		before := outside()
		var logs []*tracked
		for _, r := range regions {
			logs = append(logs, track(format(t, d, r[0], r[1]), r[0], r[1]))
		}
		for step := range 300 {
			if random.Intn(12) == 0 {
				d.Fuse(random.Intn(9))
			}
			i := random.Intn(len(logs))
			perform(t, random, logs[i], step)
			if !d.On() {
				d.Restart(chance(random, 24))
				for j, k := range logs {
					logs[j] = k.recover(t, d)
				}
			}
			for _, k := range logs {
				expect(t, k.l, k.n, k.records...)
			}
			if !bytes.Equal(outside(), before) {
				t.Fatal("a sector outside of all regions changed")
			}
		}
	}
}

// perform performs a step with a log, chosen at random.
func perform(t *testing.T, random *rand.Rand, k *tracked, step int) {
	t.Helper()
	switch r := random.Intn(12); {
	case r < 6:
		free := k.l.Room()
		if free < 0 {
			k.reset()
			return
		}
		rec := []byte(strings.Repeat(strconv.Itoa(step)+" ", free))[:size(random, free)]
		if e := k.append(string(rec)); e != api.OK && e != api.ErrPower {
			t.Fatalf("Append of %d bytes with a room of %d: %v", len(rec), free, e)
		}
	case r < 11:
		k.sync()
	default:
		k.reset()
	}
}

// P4.8: each sector of a region belongs to it alone: two regions side by side, filled to the last byte.
func TestFullNeighbours(t *testing.T) {
	d := create(t, 9)
	left, right := format(t, d, 0, 4), format(t, d, 4, 5)
	add(t, left, strings.Repeat("l", left.Room()))
	add(t, right, strings.Repeat("r", right.Room()))
	sync(t, left)
	sync(t, right)
	d = lost(d)
	expect(t, open(t, d, 0, 4), 4, strings.Repeat("l", 116))
	expect(t, open(t, d, 4, 5), 5, strings.Repeat("r", 180))
	reset(t, open(t, d, 0, 4))
	expect(t, open(t, lost(d), 4, 5), 5, strings.Repeat("r", 180))
}

// P4.6, P4.9, P4.10: many failures of long runs in regions of different sizes, some of them directly after a restart.
func TestManyFailures(t *testing.T) {
	for seed := range 150 {
		random := rand.New(rand.NewSource(int64(seed)))
		n := 4 + random.Intn(12)
		if seed%20 == 0 {
			n = 100 + random.Intn(100)
		}
		from := random.Intn(5)
		d := create(t, from+n+random.Intn(3))
		k := track(format(t, d, from, n), from, n)
		for step := range 400 {
			if d.On() && random.Intn(6) == 0 {
				d.Fuse(random.Intn(n + 6))
			}
			perform(t, random, k, step)
			expect(t, k.l, n, kept(k, d)...)
			for !d.On() {
				d.Restart(chance(random, d.Len()))
				if random.Intn(4) == 0 {
					d.Fuse(random.Intn(3))
				}
				if d.On() {
					k = k.recover(t, d)
				}
			}
			d.Fuse(-1)
		}
	}
}

// kept returns the records that a log itself has to have: a record that was refused is not one of them.
func kept(k *tracked, d *disk.Disk) []string {
	if got := len(k.l.Records()); !d.On() && got < len(k.records) {
		return k.records[:got]
	}
	return k.records
}

// P4.6, P4.10: more than 256 rounds of each kind, each with a failure at another write and with another outcome.
func TestManyRounds(t *testing.T) {
	ends := outcomes(0, 6)
	for _, s := range []script{{"a?", "+"}, {"-"}, {"b?", "+", "-"}, {"c?" + strings.Repeat("c", 70), "+"}} {
		for complete := range 4 {
			d := create(t, 6)
			k := track(format(t, d, 0, 6), 0, 6)
			for i := range 1200 {
				if k.l.Room() < 100 {
					k.reset()
				}
				for range complete {
					k.sync()
				}
				d.Fuse(i % 5)
				s.run(t, k, strconv.Itoa(i))
				d.Fuse(0)
				d.Restart(ends[i*7%len(ends)])
				k = k.recover(t, d)
			}
		}
	}
}

// lastFuse returns the greatest fuse with which a script is not completed.
func lastFuse(t *testing.T, m moment, s script) int {
	t.Helper()
	for fuse := 0; ; fuse++ {
		d := m.d.Clone()
		k := m.k.recover(t, d)
		d.Fuse(fuse)
		if s.run(t, k, "") {
			return fuse - 1
		}
	}
}

// P4.6, P4.10: the last write of a Sync is torn, and so is that of the next one; the ends of the records differ in several bytes.
func TestTornTwice(t *testing.T) {
	sizes := []string{"", strings.Repeat("p", 130), strings.Repeat("q", 170), strings.Repeat("r", 386)}
	tear := func(m moment, s script, b int) moment {
		d := m.d.Clone()
		k := m.k.recover(t, d)
		d.Fuse(lastFuse(t, m, s))
		s.run(t, k, "")
		end := []api.Torn{}
		for i := range 12 {
			end = append(end, api.Torn{Sector: i, Bytes: b})
		}
		d.Fuse(0)
		d.Restart(end)
		return moment{d, k.recover(t, d)}
	}
	for i := range len(sizes) * len(sizes) * len(sizes) {
		d := create(t, 12)
		k := track(format(t, d, 0, 12), 0, 12)
		script{sizes[i%4], "+", "-"}.run(t, k, "")
		for first := range 65 {
			m := tear(moment{d, k}, script{sizes[i/4%4], "+"}, first)
			for _, second := range []int{1, 2, 3, 4, 61, 62, 63} {
				tear(m, script{sizes[i/16], "+"}, second)
			}
		}
	}
}

// P4.6: records that have the bytes of the region itself are records like any other ones.
func TestRecordsLikeSectors(t *testing.T) {
	for seed := range 200 {
		random := rand.New(rand.NewSource(int64(seed)))
		d := create(t, 9)
		k := track(format(t, d, 0, 9), 0, 9)
		var images []string
		for range 60 {
			at := random.Intn(64 * 8)
			images = append(images, string(contents(t, d, 0, 9)[at:at+random.Intn(64*9-at)]))
			if k.l.Room() < 40 {
				k.reset()
			}
			d.Fuse(random.Intn(15))
			for range 1 + random.Intn(3) {
				rec := images[random.Intn(len(images))]
				if free := k.l.Room(); free >= 0 {
					k.append(rec[:min(len(rec), free)])
				}
			}
			k.sync()
			d.Fuse(0)
			d.Restart(chance(random, 9))
			k = k.recover(t, d)
		}
	}
}

// P4.11: records that were encoded together with their digest are decoded after every failure.
func TestSealedRecords(t *testing.T) {
	random := rand.New(rand.NewSource(4))
	d := create(t, 60)
	k := track(format(t, d, 0, 60), 0, 60)
	failed := 0
	for i := range 800 {
		rec := sealed(i, strings.Repeat("x", i%200))
		if k.l.Room() < len(rec) {
			k.reset()
		}
		if random.Intn(3) == 0 {
			d.Fuse(random.Intn(8))
		}
		k.append(rec)
		if random.Intn(2) == 0 {
			k.sync()
		}
		if !d.On() {
			d.Restart(chance(random, 60))
			k = k.recover(t, d)
			failed++
			for _, rec := range k.l.Records() {
				checkSealed(t, rec)
			}
		}
		d.Fuse(-1)
	}
	if failed < 50 {
		t.Error("only", failed, "failures")
	}
}

// sealed returns the encoding of a number and a string, with its digest.
func sealed(i int, s string) string {
	var w wire.Writer
	w.Int(i)
	w.Text(s)
	sum := digest.Sum(w.Done())
	w.Text(string(sum[:]))
	return string(w.Done())
}

// checkSealed checks that a record is what sealed returns for some number.
func checkSealed(t *testing.T, rec []byte) {
	t.Helper()
	r := wire.NewReader(rec)
	i, s, sum := r.Int(), r.Text(1000), r.Text(32)
	if r.End() != api.OK || sealed(i, s) != string(rec) || len(sum) != 32 {
		t.Fatalf("a record of %d bytes: %v, number %d", len(rec), r.End(), i)
	}
}
