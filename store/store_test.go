package store_test

import (
	"maps"
	"math"
	"slices"
	"strconv"
	"strings"
	"testing"

	"rollbook/api"
	"rollbook/digest"
	"rollbook/disk"
	"rollbook/store"
	"rollbook/tree"
	"rollbook/wal"
	"rollbook/wire"
)

// model is a map as the document describes it.
type model map[string]string

// pairs returns the pairs of a range of keys, in order.
func (m model) pairs(from, until string) []api.Pair {
	var l []api.Pair
	for _, key := range slices.Sorted(maps.Keys(m)) {
		if key >= from && (until == "" || key < until) {
			l = append(l, api.Pair{Key: key, Value: m[key]})
		}
	}
	return l
}

// after returns the map after edits.
func (m model) after(l []api.Edit) model {
	c := model{}
	maps.Copy(c, m)
	for _, e := range l {
		if e.Delete {
			delete(c, e.Key)
		} else {
			c[e.Key] = e.Value
		}
	}
	return c
}

// size returns the size of the map.
func (m model) size() int {
	size := 0
	for key, value := range m {
		size += len(key) + len(value) + 8
	}
	return size
}

// sum returns the hash value that P6.7 describes.
func (m model) sum() api.Hash {
	var w wire.Writer
	w.Uint(uint64(len(m)))
	for _, p := range m.pairs("", "") {
		w.Text(p.Key)
		w.Text(p.Value)
	}
	return digest.Sum(w.Done())
}

// sizeOf returns the sum of the sizes of edits.
func sizeOf(l []api.Edit) int {
	size := 0
	for _, e := range l {
		size += len(e.Key) + 8
		if !e.Delete {
			size += len(e.Value)
		}
	}
	return size
}

func create(t *testing.T, sectors int) *disk.Disk {
	t.Helper()
	d, e := disk.New(sectors)
	if e != api.OK {
		t.Fatalf("disk.New(%d): %v", sectors, e)
	}
	return d
}

func format(t *testing.T, d *disk.Disk) *store.Store {
	t.Helper()
	s, e := store.Format(d)
	if e != api.OK || s == nil {
		t.Fatalf("Format: %v, %v", s, e)
	}
	return s
}

func open(t *testing.T, d *disk.Disk) *store.Store {
	t.Helper()
	s, e := store.Open(d)
	if e != api.OK || s == nil {
		t.Fatalf("Open: %v, %v", s, e)
	}
	return s
}

func commit(t *testing.T, s *store.Store, l ...api.Edit) {
	t.Helper()
	if e := s.Commit(l); e != api.OK {
		t.Fatalf("Commit of %d edits of the size %d: %v", len(l), sizeOf(l), e)
	}
}

func compact(t *testing.T, s *store.Store) {
	t.Helper()
	if e := s.Compact(); e != api.OK {
		t.Fatalf("Compact: %v", e)
	}
}

func put(key, value string) api.Edit { return api.Edit{Key: key, Value: value} }

func remove(key string) api.Edit { return api.Edit{Key: key, Delete: true} }

// lost returns a copy of a disk after a power failure that lost all unflushed writes.
func lost(d *disk.Disk) *disk.Disk {
	c := d.Clone()
	c.Fuse(0)
	c.Restart(nil)
	return c
}

// expect checks the version and the map of a store.
func expect(t *testing.T, s *store.Store, version int, m model) {
	t.Helper()
	if got := s.Version(); got != version {
		t.Fatalf("Version: %d, want %d", got, version)
	}
	if got := s.Range("", ""); !slices.Equal(got, m.pairs("", "")) {
		t.Fatalf("version %d: Range: %q, want %q", version, got, m.pairs("", ""))
	}
	if s.Sum() != m.sum() {
		t.Fatalf("version %d: Sum: %x, want %x", version, s.Sum(), m.sum())
	}
	expectAt(t, s, version, m)
}

// expectAt checks the map of a version of a store.
func expectAt(t *testing.T, s *store.Store, version int, m model) {
	t.Helper()
	u, ok := s.At(version)
	if !ok || u == nil || !slices.Equal(u.Range("", ""), m.pairs("", "")) {
		t.Fatalf("At(%d): %v, %v, want %q", version, u, ok, m.pairs("", ""))
	}
}

// expectNone checks that a store does not have a version.
func expectNone(t *testing.T, s *store.Store, version int) {
	t.Helper()
	if u, ok := s.At(version); ok || u != nil {
		t.Fatalf("At(%d): %v, %v, want nil, false", version, u, ok)
	}
}

// expectAll checks a store, and what its disk has now and after a failure.
func expectAll(t *testing.T, s *store.Store, d *disk.Disk, version int, m model) {
	t.Helper()
	expect(t, s, version, m)
	expect(t, open(t, d.Clone()), version, m)
	expect(t, open(t, lost(d)), version, m)
}

// P6.1: a new store is empty, durably, on disks of all sizes.
func TestFormat(t *testing.T) {
	for _, sectors := range []int{32, 33, 34, 35, 63, 64, 100, 511, 4095, 4096} {
		d := create(t, sectors)
		s := format(t, d)
		expectAll(t, s, d, 0, nil)
		expectNone(t, s, -1)
		expectNone(t, s, 1)
	}
}

// P6.1: Format removes what a store had before, whatever it did last.
func TestFormatAgain(t *testing.T) {
	for commits := range 40 {
		d := create(t, 33)
		s := format(t, d)
		for i := range commits {
			commit(t, s, put("k"+strconv.Itoa(i%5), strings.Repeat("v", i)))
			if i%7 == 5 {
				compact(t, s)
			}
		}
		s = format(t, d)
		expectAll(t, s, d, 0, nil)
		expectNone(t, s, commits+1)
		commit(t, s, put("new", "1"))
		expectAll(t, s, d, 1, model{"new": "1"})
		compact(t, s)
		expectAll(t, s, d, 1, model{"new": "1"})
	}
}

// P6.1: an interrupted Format returns ErrPower; one that returns OK is durable. Format of the disk can be tried again.
func TestFormatInterrupted(t *testing.T) {
	for _, commits := range []int{0, 3, 30} {
		d := create(t, 32)
		if commits > 0 {
			s := format(t, d)
			for range commits {
				commit(t, s, put("a", strings.Repeat("b", 60)))
			}
		}
		done := false
		for fuse := 0; !done; fuse++ {
			c := d.Clone()
			c.Fuse(fuse)
			s, e := store.Format(c)
			done = e == api.OK
			if !done && (e != api.ErrPower || s != nil) {
				t.Fatalf("Format interrupted after %d: %v, %v", fuse, s, e)
			}
			c.Fuse(0)
			c.Restart(nil)
			if done {
				expectAll(t, open(t, c), c, 0, nil)
			}
			expectAll(t, format(t, c), c, 0, nil)
		}
	}
}

// P6.1: ErrRange for small disks, also without power, and ErrPower.
func TestFormatErrors(t *testing.T) {
	for sectors := 1; sectors <= 40; sectors++ {
		for _, on := range []bool{true, false} {
			d := create(t, sectors)
			want := api.OK
			if !on {
				d.Fuse(0)
				want = api.ErrPower
			}
			if sectors < 32 {
				want = api.ErrRange
			}
			if s, e := store.Format(d); e != want || (s == nil) != (want != api.OK) {
				t.Errorf("Format of %d sectors, power %v: %v, %v, want %v", sectors, on, s, e, want)
			}
		}
	}
}

// P6.2: the errors of Open, in their order.
func TestOpenErrors(t *testing.T) {
	for sectors := 1; sectors <= 40; sectors++ {
		for _, on := range []bool{true, false} {
			d := create(t, sectors)
			want := api.ErrForm
			if !on {
				d.Fuse(0)
				want = api.ErrPower
			}
			if sectors < 32 {
				want = api.ErrRange
			}
			if s, e := store.Open(d); e != want || s != nil {
				t.Errorf("Open of %d sectors of zero bytes, power %v: %v, %v, want %v", sectors, on, s, e, want)
			}
		}
	}
	d := create(t, 32)
	commit(t, format(t, d), put("a", "1"))
	d.Fuse(0)
	if s, e := store.Open(d); e != api.ErrPower || s != nil {
		t.Errorf("Open without power: %v, %v", s, e)
	}
	d.Restart(nil)
	expect(t, open(t, d), 1, model{"a": "1"})
}

// TestOpenForeign checks that Open refuses logs that have other records than those of a store. The document does not say what becomes of them.
func TestOpenForeign(t *testing.T) {
	for _, rec := range []string{
		"", "a", "\x01\x01", "\x01\x01\x80", "\x02\x01\x02\x02\x00", // not two booleans and a piece
		"\x01\x01\x02\x02\x00\x00", "\x01\x00\x00\x00", // something behind it
		"\x01\x01\x00", "\x01\x01\x01\x02", "\x01\x01\x03\x02\x01\x00", // not a complete change
		"\x01\x01\x03\x02\x00\x00", "\x01\x01\x02\x02\x02", // something behind it, or no boolean
	} {
		for i := range 2 {
			d := create(t, 32)
			s := format(t, d)
			logs := []*wal.Log{s.Log}
			compact(t, s)
			logs = append(logs, s.Log)
			interrupt(t, logs[i], [][]byte{[]byte(rec)})
			if s, e := store.Open(d); e != api.ErrForm || s != nil {
				t.Errorf("Open with a record %q in log %d: %v, %v", rec, i, s, e)
			}
		}
	}
}

// P6.2: Open returns the map and the version after the last Commit, again and again, and the store can be used further.
func TestOpen(t *testing.T) {
	d := create(t, 40)
	s, m := format(t, d), model{}
	for i := range 200 {
		l := []api.Edit{put("k"+strconv.Itoa(i%11), strings.Repeat("v", i%13)), remove("k" + strconv.Itoa(i*7%11))}
		commit(t, s, l...)
		m = m.after(l)
		expect(t, s, i+1, m)
		if i%3 == 0 {
			s = open(t, d)
			expect(t, s, i+1, m)
			s = open(t, d)
		}
	}
	expectAll(t, s, d, 200, m)
}

// P6.3: edits are performed one after the other; also without edits, and without a change, the version increases.
func TestCommit(t *testing.T) {
	for _, c := range []struct {
		edits []api.Edit
		want  model
	}{
		{nil, model{"a": "1", "b": "2"}},
		{[]api.Edit{}, model{"a": "1", "b": "2"}},
		{[]api.Edit{put("a", "1")}, model{"a": "1", "b": "2"}},
		{[]api.Edit{remove("c")}, model{"a": "1", "b": "2"}},
		{[]api.Edit{put("a", "3")}, model{"a": "3", "b": "2"}},
		{[]api.Edit{remove("a"), put("a", "4")}, model{"a": "4", "b": "2"}},
		{[]api.Edit{put("a", "5"), remove("a")}, model{"b": "2"}},
		{[]api.Edit{put("c", "6"), put("c", "7")}, model{"a": "1", "b": "2", "c": "7"}},
		{[]api.Edit{remove("a"), remove("b"), remove("a")}, model{}},
		{[]api.Edit{put("", "")}, model{"a": "1", "b": "2", "": ""}},
		{[]api.Edit{put("", "8"), remove("")}, model{"a": "1", "b": "2"}},
		{[]api.Edit{put("\x00\xff", "\xff\x00")}, model{"a": "1", "b": "2", "\x00\xff": "\xff\x00"}},
		{[]api.Edit{{Key: "a", Value: "9", Delete: true}}, model{"b": "2"}},
	} {
		d := create(t, 32)
		s := format(t, d)
		commit(t, s, put("a", "1"), put("b", "2"))
		commit(t, s, c.edits...)
		expectAll(t, s, d, 2, c.want)
		compact(t, s)
		expectAll(t, s, d, 2, c.want)
		expectAt(t, s, 1, model{"a": "1", "b": "2"})
	}
}

// refused checks that a Commit has an error, and that it changes nothing.
func refused(t *testing.T, d *disk.Disk, l []api.Edit, want api.Errno) {
	t.Helper()
	s := open(t, d)
	pairs, version := s.Range("", ""), s.Version()
	if e := s.Commit(l); e != want {
		t.Errorf("Commit of %d edits of the size %d: %v, want %v", len(l), sizeOf(l), e, want)
	}
	expectNone(t, s, version+1)
	for _, again := range []*store.Store{s, open(t, d), open(t, lost(d))} {
		if again.Version() != version || !slices.Equal(again.Range("", ""), pairs) {
			t.Errorf("a refused Commit changes the store: version %d, %q, before it %d, %q", again.Version(), again.Range("", ""), version, pairs)
		}
	}
}

// P6.3: keys have at most 60 bytes and values at most 1000; the value of an edit that deletes has no effect.
func TestCommitLimits(t *testing.T) {
	key, value := strings.Repeat("k", 60), strings.Repeat("v", 1000)
	d := create(t, 300)
	s := format(t, d)
	commit(t, s, put(key, value))
	expectAll(t, s, d, 1, model{key: value})
	for _, e := range []api.Edit{put(key+"k", ""), put("", value+"v"), put(key+"k", value+"v"), remove(key + "k")} {
		refused(t, d, []api.Edit{e}, api.ErrLimit)
		refused(t, d, []api.Edit{put("a", ""), e}, api.ErrLimit)
		refused(t, d, []api.Edit{e, remove("a")}, api.ErrLimit)
	}
	s = open(t, d)
	commit(t, s, api.Edit{Key: key, Value: strings.Repeat(value, 9), Delete: true})
	expectAll(t, s, d, 2, model{})
	long := api.Edit{Key: key, Value: strings.Repeat(value, 9), Delete: true}
	commit(t, s, put(key, value), long, long)
	expectAll(t, s, d, 3, model{})
}

// P6.3: the sum of the sizes of the edits, and the size of the map, are at most the capacity.
func TestCommitFull(t *testing.T) {
	for _, sectors := range []int{32, 33, 50, 100} {
		capacity := 8 * sectors
		full := put("0123456789", strings.Repeat("v", capacity-18))
		over := put("0123456789", strings.Repeat("v", capacity-17))
		d := create(t, sectors)
		s := format(t, d)
		refused(t, d, []api.Edit{over}, api.ErrFull)
		refused(t, d, []api.Edit{full, put("", "")}, api.ErrFull)
		refused(t, d, []api.Edit{full, remove("0123456789")}, api.ErrFull)
		refused(t, d, []api.Edit{remove(""), full}, api.ErrFull)
		s = open(t, d)
		commit(t, s, full)
		expectAll(t, s, d, 1, model{full.Key: full.Value})
		refused(t, d, []api.Edit{put("", "")}, api.ErrFull)
		refused(t, d, []api.Edit{put("a", "b"), put("0123456789", full.Value[9:])}, api.ErrFull)
		// What counts is the map that results, not the maps on the way.
		s = open(t, d)
		commit(t, s, put("a", "b"), remove("0123456789"))
		expectAll(t, s, d, 2, model{"a": "b"})
		commit(t, s, put("a", strings.Repeat("c", capacity-9)))
		refused(t, d, []api.Edit{put("b", ""), put("a", strings.Repeat("c", capacity-17))}, api.ErrFull)
		s = open(t, d)
		commit(t, s, put("b", ""), put("a", strings.Repeat("c", capacity-27)))
		commit(t, s, put("b", strings.Repeat("d", 9)))
		refused(t, d, []api.Edit{put("b", strings.Repeat("d", 10))}, api.ErrFull)
		refused(t, d, []api.Edit{put("b", "e"), put("", "f")}, api.ErrFull)
		commit(t, open(t, d), remove("a"), remove("b"))
		expect(t, open(t, d), 6, nil)
	}
}

// P6.3: many small edits: each counts for its bytes and 8.
func TestCommitFullOfSmallEdits(t *testing.T) {
	for _, sectors := range []int{32, 33, 64} {
		d := create(t, sectors)
		s := format(t, d)
		commit(t, s, slices.Repeat([]api.Edit{remove("")}, sectors)...)
		refused(t, d, slices.Repeat([]api.Edit{remove("")}, sectors+1), api.ErrFull)
		s = open(t, d)
		commit(t, s, slices.Repeat([]api.Edit{put("", "")}, sectors)...)
		refused(t, d, slices.Repeat([]api.Edit{put("", "")}, sectors+1), api.ErrFull)
		s = open(t, d)
		commit(t, s, remove(""))
		m := model{}
		for i := range sectors * 8 / 9 {
			key := string(rune('0' + i))
			commit(t, s, put(key, ""))
			m[key] = ""
		}
		refused(t, d, []api.Edit{put("!", "1"), put("?", "")}, api.ErrFull)
		expectAll(t, open(t, d), d, 3+len(m), m)
	}
}

// P6.3: ErrLimit comes before ErrFull, and both come before ErrPower.
func TestCommitOrder(t *testing.T) {
	large := put("a", strings.Repeat("v", 900))
	tooLong := put("b", strings.Repeat("v", 1001))
	for _, on := range []bool{true, false} {
		d := create(t, 32)
		s := format(t, d)
		commit(t, s, put("c", strings.Repeat("w", 200)))
		fine := api.OK
		if !on {
			d.Fuse(0)
			fine = api.ErrPower
		}
		for _, c := range []struct {
			edits []api.Edit
			want  api.Errno
		}{
			{[]api.Edit{large, tooLong}, api.ErrLimit},
			{[]api.Edit{tooLong, large}, api.ErrLimit},
			{[]api.Edit{large, large, large, tooLong}, api.ErrLimit},
			{[]api.Edit{large}, api.ErrFull},
			{[]api.Edit{put("d", strings.Repeat("x", 40))}, api.ErrFull},
			{[]api.Edit{put("d", strings.Repeat("x", 38))}, fine},
			{nil, fine},
		} {
			if e := s.Commit(c.edits); e != c.want {
				t.Errorf("Commit of %d edits of the size %d, power %v: %v, want %v", len(c.edits), sizeOf(c.edits), on, e, c.want)
			}
		}
	}
}

// P6.3, P6.6: without power there is no error but ErrPower, however often it is tried, and the store stays as it is.
func TestWithoutPower(t *testing.T) {
	for filled := range 30 {
		d := create(t, 32)
		s, m := format(t, d), model{}
		for i := range filled {
			l := []api.Edit{put("k"+strconv.Itoa(i%3), strings.Repeat("v", 40+i))}
			commit(t, s, l...)
			m = m.after(l)
		}
		for _, fuse := range []int{0, 1, 2, 3, 5} {
			c := d.Clone()
			s := open(t, c)
			c.Fuse(fuse)
			for c.On() {
				commitOrFail(t, s, put("k0", strings.Repeat("x", 30)))
			}
			pairs, version := s.Range("", ""), s.Version()
			for range 12 {
				if e := s.Commit([]api.Edit{put("k1", strings.Repeat("x", 40))}); e != api.ErrPower {
					t.Fatalf("Commit without power: %v", e)
				}
				if e := s.Compact(); e != api.ErrPower {
					t.Fatalf("Compact without power: %v", e)
				}
			}
			if s.Version() != version || !slices.Equal(s.Range("", ""), pairs) {
				t.Fatalf("without power, the version %d with %q becomes %d with %q", version, pairs, s.Version(), s.Range("", ""))
			}
			if fuse == 0 {
				c.Restart(nil)
				expect(t, s, filled, m)
				expect(t, open(t, c), filled, m)
			}
		}
	}
}

// commitOrFail performs a commit, during which the power may fail.
func commitOrFail(t *testing.T, s *store.Store, l ...api.Edit) {
	t.Helper()
	if e := s.Commit(l); e != api.OK && e != api.ErrPower {
		t.Fatalf("Commit of %d edits of the size %d: %v", len(l), sizeOf(l), e)
	}
}

// P6.3, R4: the edits are neither changed nor kept.
func TestCommitKeepsNothing(t *testing.T) {
	d := create(t, 32)
	s := format(t, d)
	spare := []api.Edit{put("b", "2"), put("a", "1"), remove("c"), {Key: "d", Value: "4", Delete: true}, put("e", "5")}
	l := spare[:4]
	before := slices.Clone(spare)
	commit(t, s, l...)
	if e := s.Commit(l); e != api.OK || !slices.Equal(spare, before) {
		t.Errorf("Commit: %v, changes its argument: %v", e, spare)
	}
	clear(spare)
	expectAll(t, s, d, 2, model{"a": "1", "b": "2"})
	expectAt(t, s, 1, model{"a": "1", "b": "2"})
}

// P6.4: Get and Range of all keys and ranges, near the keys of the map.
func TestGetAndRange(t *testing.T) {
	d := create(t, 64)
	s := format(t, d)
	m := model{"": "none", "a": "", "ab": "1", "b": "2", "ba": "3", "c": "\x00", "\xff": "4"}
	for key, value := range m {
		commit(t, s, put(key, value))
	}
	commit(t, s, put("bb", "5"))
	commit(t, s, remove("bb"))
	keys := []string{"", "\x00", "a", "a\x00", "aa", "ab", "b", "ba", "bb", "c", "d", "\xfe", "\xff", "\xff\xff", strings.Repeat("a", 100)}
	for _, u := range []*store.Store{s, open(t, d), open(t, lost(d))} {
		for _, from := range keys {
			want, has := m[from]
			if value, ok := u.Get(from); value != want || ok != has {
				t.Errorf("Get(%q): %q, %v, want %q, %v", from, value, ok, want, has)
			}
			for _, until := range keys {
				if got := u.Range(from, until); !slices.Equal(got, m.pairs(from, until)) {
					t.Errorf("Range(%q, %q): %q, want %q", from, until, got, m.pairs(from, until))
				}
			}
		}
	}
}

// P6.4, R4: what Range returns is new memory.
func TestRangeSharesNothing(t *testing.T) {
	s := format(t, create(t, 32))
	m := model{"a": "1", "b": "2", "c": "3"}
	commit(t, s, put("a", "1"), put("b", "2"), put("c", "3"))
	l := s.Range("", "")
	_ = append(l[:1], api.Pair{Key: "x"})
	l[0] = api.Pair{Key: "y"}
	u, _ := s.At(1)
	clear(u.Range("", ""))
	expect(t, s, 1, m)
	compact(t, s)
	expect(t, s, 1, m)
}

// P6.5, P6.10: all versions since the store was opened, and no others; each one stays what it was.
func TestAt(t *testing.T) {
	d := create(t, 48)
	s := format(t, d)
	all := []model{{}}
	first := 0
	var kept []*tree.Tree
	for i := range 150 {
		l := []api.Edit{put("k"+strconv.Itoa(i%9), strconv.Itoa(i)), remove("k" + strconv.Itoa(i*5%9))}
		commit(t, s, l...)
		all = append(all, all[i].after(l))
		if i%20 == 7 {
			compact(t, s)
		}
		if i == 40 || i == 41 || i == 97 {
			s = open(t, d)
			first = i + 1
		}
		for version := -2; version < i+5; version++ {
			if version < first || version > i+1 {
				expectNone(t, s, version)
			} else {
				expectAt(t, s, version, all[version])
			}
		}
		u, _ := s.At(i + 1)
		kept = append(kept, u)
	}
	for _, version := range []int{math.MinInt, math.MinInt + 1, -1 << 32, 1 << 32, math.MaxInt} {
		expectNone(t, s, version)
	}
	u := format(t, create(t, 32))
	commit(t, u)
	for _, version := range []int{-1, 2, 1 << 32, 1<<32 + 1, -1 << 32, -1<<32 + 1, math.MinInt, math.MaxInt} {
		expectNone(t, u, version)
	}
	for i, u := range kept {
		if !slices.Equal(u.Range("", ""), all[i+1].pairs("", "")) {
			t.Errorf("the map of version %d changed", i+1)
		}
	}
}

// P6.10: neighbouring versions differ by the edits of one commit.
func TestNeighbours(t *testing.T) {
	s := format(t, create(t, 64))
	var commits [][]api.Edit
	for i := range 60 {
		// The edits are in order and change something, so they are the difference.
		l := []api.Edit{put("a"+strconv.Itoa(i%4), strconv.Itoa(i)), put("b"+strconv.Itoa(i), "x")}
		if i > 0 {
			l = append(l, remove("b"+strconv.Itoa(i-1)))
			slices.SortFunc(l, func(x, y api.Edit) int { return strings.Compare(x.Key, y.Key) })
		}
		commit(t, s, l...)
		commits = append(commits, l)
		if i%25 == 3 {
			compact(t, s)
		}
	}
	for i, l := range commits {
		a, _ := s.At(i)
		b, _ := s.At(i + 1)
		if got := tree.Diff(a, b); !slices.Equal(got, l) {
			t.Errorf("versions %d and %d differ by %v, want %v", i, i+1, got, l)
		}
	}
}

// P6.6: Compact changes neither the map nor the version nor what At returns, on maps of all sizes, and again and again.
func TestCompact(t *testing.T) {
	for _, sectors := range []int{32, 33, 64, 700} {
		d := create(t, sectors)
		s := format(t, d)
		compact(t, s)
		expectAll(t, s, d, 0, nil)
		all := []model{{}}
		for i := range 40 {
			l := []api.Edit{put("k"+strconv.Itoa(i%10), strings.Repeat("v", min(999, (sectors*8-200)/10))), remove("k" + strconv.Itoa(i*3%10))}
			commit(t, s, l...)
			all = append(all, all[i].after(l))
			for range i % 3 {
				compact(t, s)
			}
			expectAll(t, s, d, i+1, all[i+1])
		}
		for version, m := range all {
			expectAt(t, s, version, m)
		}
		expectNone(t, s, len(all))
	}
}

// space returns how many bytes the records of a store have.
func space(s *store.Store) int {
	n := 0
	for _, rec := range s.Records() {
		n += len(rec)
	}
	return n
}

// P6.6: after Compact a store does not take more space than another one with this map and version, whatever it did before, and about as much as the map.
func TestCompactSpace(t *testing.T) {
	d, other := create(t, 100), create(t, 100)
	s, u := format(t, d), format(t, other)
	for i := range 60 {
		commit(t, s, put("k"+strconv.Itoa(i%6), strings.Repeat("v", 10)))
		commit(t, u)
	}
	for i := range 6 {
		commit(t, s)
		commit(t, u, put("k"+strconv.Itoa(i), strings.Repeat("v", 10)))
	}
	before := space(s)
	compact(t, s)
	compact(t, u)
	size := model{}.after(tree.Diff(tree.New(), present(s))).size()
	if space(s) != space(u) || space(s) > size+20 || space(s) >= before {
		t.Errorf("the records take %d and %d bytes, before it %d; the map has the size %d", space(s), space(u), before, size)
	}
	for _, c := range []*disk.Disk{d, lost(d)} {
		if again := open(t, c); space(again) != space(s) {
			t.Errorf("after Open the records take %d bytes, before it %d", space(again), space(s))
		}
	}
}

// P6.6: a Compact that returns OK was completed, so Open finds what it left.
func TestCompactComplete(t *testing.T) {
	for commits := range 30 {
		d := create(t, 32)
		s := format(t, d)
		for i := range commits {
			commit(t, s, put("k"+strconv.Itoa(i%3), strings.Repeat("v", 20+i)))
		}
		e := api.ErrPower
		for fuse := 0; e != api.OK; fuse++ {
			c := d.Clone()
			s := open(t, c)
			c.Fuse(fuse)
			e = s.Compact()
			c.Fuse(0)
			c.Restart(nil)
			if again := open(t, c); e == api.OK && space(again) > space(s) {
				t.Errorf("after %d commits and Compact the records take %d bytes, after Open %d", commits, space(s), space(again))
			}
		}
	}
}

// present returns the map of a store.
func present(s *store.Store) *tree.Tree {
	u, _ := s.At(s.Version())
	return u
}

// P6.7: the encoding whose hash value Sum returns.
func TestSum(t *testing.T) {
	s := format(t, create(t, 64))
	if s.Sum() != digest.Sum([]byte{0}) {
		t.Errorf("Sum of no pairs: %x", s.Sum())
	}
	commit(t, s, put("b", "xyz"), put("a", ""))
	if s.Sum() != digest.Sum([]byte{2, 1, 'a', 0, 1, 'b', 3, 'x', 'y', 'z'}) {
		t.Errorf("Sum of two pairs: %x", s.Sum())
	}
	commit(t, s, remove("a"), put("b", strings.Repeat("v", 300)))
	if s.Sum() != digest.Sum(slices.Concat([]byte{1, 1, 'b', 172, 2}, []byte(strings.Repeat("v", 300)))) {
		t.Errorf("Sum of a long value: %x", s.Sum())
	}
}

// P6.7: the number of pairs is encoded as an unsigned number, also where it takes two bytes.
func TestSumOfMany(t *testing.T) {
	s := format(t, create(t, 400))
	m := model{}
	var l []api.Edit
	for i := range 200 {
		l = append(l, put(strconv.Itoa(i), ""))
		m[strconv.Itoa(i)] = ""
	}
	commit(t, s, l...)
	expect(t, s, 1, m)
}

// P6.11: stores with equal maps have equal sums, whatever they did; with other maps they have others.
func TestSums(t *testing.T) {
	a, b := format(t, create(t, 32)), format(t, create(t, 90))
	commit(t, a, put("x", "1"), put("y", "2"))
	for i := range 50 {
		commit(t, b, put("y", strconv.Itoa(i)), put("z", ""))
	}
	sums := map[api.Hash]bool{a.Sum(): true, b.Sum(): true}
	commit(t, b, put("y", "2"), remove("z"))
	sums[b.Sum()] = true
	commit(t, b, put("x", "1"))
	if a.Sum() != b.Sum() || len(sums) != 3 {
		t.Errorf("equal maps: %x, %x; %d different sums of 3 maps", a.Sum(), b.Sum(), len(sums))
	}
	compact(t, b)
	if a.Sum() != b.Sum() {
		t.Errorf("after Compact: %x, %x", a.Sum(), b.Sum())
	}
	// Neither the borders between strings nor the order of the keys are lost.
	for _, l := range [][]api.Edit{{put("x1", ""), put("y", "2")}, {put("x", "1y"), put("", "2")}, {put("x", "2"), put("y", "1")}} {
		c := format(t, create(t, 32))
		commit(t, c, l...)
		sums[c.Sum()] = true
	}
	if len(sums) != 6 {
		t.Errorf("%d different sums of 6 maps", len(sums))
	}
}

// P6.12: a copy of the disk has what the disk had, whatever happens to either of them.
func TestCopies(t *testing.T) {
	d := create(t, 36)
	s := format(t, d)
	var copies []*disk.Disk
	all := []model{{}}
	for i := range 60 {
		copies = append(copies, d.Clone())
		l := []api.Edit{put("k"+strconv.Itoa(i%4), strings.Repeat("v", i))}
		commit(t, s, l...)
		all = append(all, all[i].after(l))
		if i%11 == 10 {
			compact(t, s)
		}
	}
	for i, c := range copies {
		u := open(t, c)
		expectAll(t, u, c, i, all[i])
		commit(t, u, put("other", "1"))
		expectAll(t, u, c, i+1, all[i].after([]api.Edit{put("other", "1")}))
	}
	expectAll(t, s, d, 60, all[60])
}

// TestTwoDisks checks that stores on different disks do not influence each other.
func TestTwoDisks(t *testing.T) {
	d, c := create(t, 32), create(t, 32)
	s, u := format(t, d), format(t, c)
	commit(t, s, put("a", "1"))
	commit(t, u, put("a", "2"))
	commit(t, u, put("b", "3"))
	compact(t, s)
	expectAll(t, s, d, 1, model{"a": "1"})
	expectAll(t, u, c, 2, model{"a": "2", "b": "3"})
}

// TestOldStores checks that a store that was opened before can still be read.
func TestOldStores(t *testing.T) {
	d := create(t, 32)
	s := format(t, d)
	commit(t, s, put("a", "1"))
	u := open(t, d)
	for i := range 50 {
		commit(t, u, put("a", strconv.Itoa(i)))
	}
	expect(t, s, 1, model{"a": "1"})
	expectAt(t, s, 0, nil)
	d.Fuse(0)
	expect(t, s, 1, model{"a": "1"})
	expect(t, u, 51, model{"a": "49"})
	d.Restart(nil)
	expect(t, u, 51, model{"a": "49"})
	expectAt(t, u, 1, model{"a": "1"})
	expectNone(t, u, 0)
}

// TestExamples checks the examples of the document.
func TestExamples(t *testing.T) {
	d := create(t, 32)
	s := format(t, d)
	commit(t, s, put("a", "1"), put("b", "2"))
	m := model{"a": "1", "b": "2"}
	expectAll(t, s, d, 1, m)
	if m.size() != 20 || len(s.Range("", "")) != 2 {
		t.Errorf("%d pairs of the size %d", len(s.Range("", "")), m.size())
	}
	commit(t, s, remove("a"), put("c", "3"))
	expectAll(t, s, d, 2, model{"b": "2", "c": "3"})
	expectAt(t, s, 1, m)
	expectAt(t, s, 2, model{"b": "2", "c": "3"})
	expectNone(t, s, 3)
	for _, c := range []struct {
		key, value int
		want       api.Errno
	}{{61, 0, api.ErrLimit}, {10, 239, api.ErrFull}, {10, 238, api.ErrFull}, {10, 218, api.OK}} {
		if e := s.Commit([]api.Edit{put(strings.Repeat("k", c.key), strings.Repeat("v", c.value))}); e != c.want {
			t.Errorf("a key of %d and a value of %d bytes: %v, want %v", c.key, c.value, e, c.want)
		}
	}
}
