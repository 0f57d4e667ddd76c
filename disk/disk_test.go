package disk_test

import (
	"bytes"
	"math"
	"math/rand"
	"slices"
	"testing"

	"rollbook/api"
	"rollbook/disk"
)

// full returns the bytes of a sector, all of them b.
func full(b byte) []byte { return bytes.Repeat([]byte{b}, api.SectorSize) }

// mixed returns n bytes first, followed by bytes rest: 64 in all.
func mixed(n int, first, rest byte) []byte {
	return append(full(first)[:n], full(rest)[n:]...)
}

// pattern returns 64 bytes that differ from each other, and from those of other seeds.
func pattern(seed byte) []byte {
	b := make([]byte, api.SectorSize)
	for i := range b {
		b[i] = byte(i) ^ seed
	}
	return b
}

func create(t *testing.T, sectors int) *disk.Disk {
	t.Helper()
	d, e := disk.New(sectors)
	if e != api.OK || d == nil {
		t.Fatalf("New(%d): %v, %v", sectors, d, e)
	}
	return d
}

func write(t *testing.T, d *disk.Disk, k int, blocks ...[]byte) {
	t.Helper()
	for _, b := range blocks {
		if e := d.Write(k, b); e != api.OK {
			t.Fatalf("Write(%d): %v", k, e)
		}
	}
}

func flush(t *testing.T, d *disk.Disk) {
	t.Helper()
	if e := d.Flush(); e != api.OK {
		t.Fatalf("Flush: %v", e)
	}
}

func read(t *testing.T, d *disk.Disk, k int) []byte {
	t.Helper()
	b, e := d.Read(k)
	if e != api.OK || len(b) != api.SectorSize {
		t.Fatalf("Read(%d): %d bytes, %v", k, len(b), e)
	}
	return b
}

func expect(t *testing.T, d *disk.Disk, k int, want []byte) {
	t.Helper()
	if got := read(t, d, k); !bytes.Equal(got, want) {
		t.Errorf("Read(%d): %v, want %v", k, got, want)
	}
}

func expectOff(t *testing.T, d *disk.Disk) {
	t.Helper()
	b, e := d.Read(0)
	if d.On() || e != api.ErrPower || len(b) != 0 || d.Write(0, full(1)) != api.ErrPower || d.Flush() != api.ErrPower {
		t.Errorf("the power is not off: %v, %d bytes, %v", d.On(), len(b), e)
	}
}

// contents returns the bytes of all sectors, one after the other.
func contents(t *testing.T, d *disk.Disk) []byte {
	t.Helper()
	var all []byte
	for k := range d.Len() {
		all = append(all, read(t, d, k)...)
	}
	return all
}

// restarted returns the bytes of all sectors after a restart of a copy.
func restarted(t *testing.T, d *disk.Disk, l ...api.Torn) []byte {
	t.Helper()
	c := d.Clone()
	c.Restart(l)
	return contents(t, c)
}

// P3.1: a new disk has the number of sectors that was asked for, all zero, and power.
func TestNew(t *testing.T) {
	for _, n := range []int{1, 2, 100, api.MaxSectors - 1, api.MaxSectors} {
		d := create(t, n)
		if d.Len() != n || !d.On() {
			t.Errorf("New(%d): %d sectors, power %v", n, d.Len(), d.On())
		}
		if !bytes.Equal(contents(t, d), make([]byte, 64*n)) {
			t.Errorf("New(%d) has bytes that are not zero", n)
		}
		d.Restart([]api.Torn{{Sector: 0, Writes: 1, Bytes: 64}, {Sector: n - 1, Writes: 1, Bytes: 64}})
		if !bytes.Equal(contents(t, d), make([]byte, 64*n)) {
			t.Errorf("New(%d) has unflushed writes", n)
		}
	}
}

// P3.1: a new disk has no fuse.
func TestNewHasNoFuse(t *testing.T) {
	d := create(t, 1)
	for range 1000 {
		write(t, d, 0, full(1))
		flush(t, d)
	}
	if !d.On() {
		t.Error("the power went off")
	}
}

// P3.1, R2: other numbers of sectors are refused, without a disk.
func TestNewRejects(t *testing.T) {
	for _, n := range []int{0, -1, math.MinInt, api.MaxSectors + 1, math.MaxInt} {
		if d, e := disk.New(n); d != nil || e != api.ErrRange {
			t.Errorf("New(%d): %v, %v", n, d, e)
		}
	}
}

// P3.1: Len, On and Clone need no power.
func TestWithoutPower(t *testing.T) {
	d := create(t, 3)
	write(t, d, 1, full(1), full(2))
	d.Fuse(0)
	c := d.Clone()
	for _, x := range []*disk.Disk{d, c} {
		if x.Len() != 3 {
			t.Error("Len without power:", x.Len())
		}
		expectOff(t, x)
		x.Restart([]api.Torn{{Sector: 1, Writes: 1, Bytes: 5}})
		expect(t, x, 1, mixed(5, 2, 1))
	}
}

// P3.1: a copy has the durable bytes, the unflushed writes and the fuse.
func TestCloneIsEqual(t *testing.T) {
	d := create(t, 2)
	write(t, d, 0, full(1))
	flush(t, d)
	write(t, d, 0, full(2), full(3))
	c := d.Clone()
	if c.Len() != 2 || !c.On() {
		t.Error("the copy:", c.Len(), c.On())
	}
	expect(t, c, 0, full(3))
	c.Restart([]api.Torn{{Sector: 0, Writes: 0, Bytes: 10}})
	expect(t, c, 0, mixed(10, 2, 1))
	d.Fuse(2)
	c = d.Clone()
	write(t, c, 1, full(4), full(5))
	expectOff(t, c)
	write(t, d, 1, full(4), full(5))
	expectOff(t, d)
}

// P3.1: what happens to a disk or to its copy does not change the other one.
func TestCloneIsIndependent(t *testing.T) {
	changes := map[string]func(d *disk.Disk){
		"Write":         func(d *disk.Disk) { d.Write(0, full(9)) },
		"another Write": func(d *disk.Disk) { d.Write(1, full(9)) },
		"Flush":         func(d *disk.Disk) { d.Flush() },
		"Fuse(0)":       func(d *disk.Disk) { d.Fuse(0) },
		"Restart":       func(d *disk.Disk) { d.Restart([]api.Torn{{Sector: 0, Writes: 1, Bytes: 7}}) },
	}
	for name, change := range changes {
		// The numbers of writes include some that leave spare room behind them.
		for writes := range 9 {
			d := create(t, 2)
			write(t, d, 1, full(7))
			flush(t, d)
			for i := range writes {
				write(t, d, 0, full(byte(i+1)))
			}
			for _, of := range []string{"disk", "copy"} {
				changed, other := d.Clone(), d.Clone()
				if of == "copy" {
					changed, other = other, other.Clone()
				}
				change(changed)
				if !other.On() || !bytes.Equal(contents(t, other), contents(t, d)) {
					t.Errorf("%s of the %s with %d writes shows in the other one", name, of, writes)
				}
				for w := range writes + 2 {
					torn := api.Torn{Sector: 0, Writes: w, Bytes: 3}
					if !bytes.Equal(restarted(t, other, torn), restarted(t, d, torn)) {
						t.Errorf("%s of the %s with %d writes changes the unflushed writes of the other one", name, of, writes)
					}
				}
			}
		}
	}
}

// P3.1: both a disk and its copy can go on from the same unflushed writes.
func TestCloneThenWriteBoth(t *testing.T) {
	for writes := range 9 {
		d := create(t, 1)
		for range writes {
			write(t, d, 0, full(1))
		}
		c := d.Clone()
		write(t, d, 0, full(2), full(3))
		write(t, c, 0, full(4), full(5))
		expect(t, d, 0, full(3))
		expect(t, c, 0, full(5))
		torn := []api.Torn{{Sector: 0, Writes: writes + 1}}
		d.Restart(torn)
		c.Restart(torn)
		expect(t, d, 0, full(2))
		expect(t, c, 0, full(4))
	}
}

// P3.1: a fuse of a copy burns on its own.
func TestCloneHasItsOwnFuse(t *testing.T) {
	d := create(t, 1)
	d.Fuse(2)
	c := d.Clone()
	write(t, c, 0, full(1))
	flush(t, c)
	expectOff(t, c)
	if !d.On() {
		t.Error("the fuse of the copy was that of the disk")
	}
	write(t, d, 0, full(2))
	flush(t, d)
	expectOff(t, d)
	c.Restart(nil)
	if d.On() || !c.On() {
		t.Error("Restart of the copy:", d.On(), c.On())
	}
}

// P3.2: a sector has the bytes of its last unflushed write, or its durable bytes.
func TestRead(t *testing.T) {
	d := create(t, 3)
	write(t, d, 0, pattern(1))
	expect(t, d, 0, pattern(1))
	write(t, d, 0, pattern(2))
	expect(t, d, 0, pattern(2))
	expect(t, d, 1, full(0))
	flush(t, d)
	expect(t, d, 0, pattern(2))
	write(t, d, 2, pattern(3))
	expect(t, d, 0, pattern(2))
	expect(t, d, 1, full(0))
	expect(t, d, 2, pattern(3))
	write(t, d, 0, full(0))
	expect(t, d, 0, full(0))
}

// P3.2, R2: the errors of Read, in their order.
func TestReadErrors(t *testing.T) {
	d := create(t, 4)
	for _, on := range []bool{true, false} {
		if !on {
			d.Fuse(0)
		}
		for _, k := range []int{-1, 4, 5, math.MinInt, math.MaxInt, -4} {
			if b, e := d.Read(k); len(b) != 0 || e != api.ErrRange {
				t.Errorf("Read(%d) with power %v: %d bytes, %v", k, on, len(b), e)
			}
		}
		for k := range 4 {
			if b, e := d.Read(k); !on && (len(b) != 0 || e != api.ErrPower) || on && e != api.OK {
				t.Errorf("Read(%d) with power %v: %d bytes, %v", k, on, len(b), e)
			}
		}
	}
}

// P3.2, R4: what Read returns is new memory, flushed or not.
func TestReadSharesNothing(t *testing.T) {
	d := create(t, 1)
	write(t, d, 0, full(1))
	for range 2 {
		first, second := read(t, d, 0), read(t, d, 0)
		clear(first[:cap(first)])
		if !bytes.Equal(second, full(1)) {
			t.Error("two results share memory")
		}
		expect(t, d, 0, full(1))
		flush(t, d)
		expect(t, d, 0, full(1))
	}
	d.Restart(nil)
	expect(t, d, 0, full(1))
}

// P3.2: Read burns no fuse and changes nothing.
func TestReadBurnsNoFuse(t *testing.T) {
	d := create(t, 1)
	d.Fuse(1)
	for range 10 {
		read(t, d, 0)
		d.Len()
		d.On()
		d.Clone()
	}
	write(t, d, 0, full(1))
	expectOff(t, d)
}

// P3.3, R2: the errors of Write, in their order; a refused write leaves nothing.
func TestWriteErrors(t *testing.T) {
	d := create(t, 4)
	d.Fuse(1)
	for _, on := range []bool{true, false} {
		if !on {
			d.Fuse(0)
		}
		for _, size := range []int{0, 1, 63, 65, 128} {
			for _, k := range []int{0, 3, -1, 4, math.MinInt, math.MaxInt} {
				if e := d.Write(k, make([]byte, size)); e != api.ErrArg {
					t.Errorf("Write(%d) of %d bytes with power %v: %v", k, size, on, e)
				}
			}
		}
		if e := d.Write(0, nil); e != api.ErrArg {
			t.Errorf("Write of nil with power %v: %v", on, e)
		}
		for _, k := range []int{-1, 4, 5, math.MinInt, math.MaxInt} {
			if e := d.Write(k, full(1)); e != api.ErrRange {
				t.Errorf("Write(%d) with power %v: %v", k, on, e)
			}
		}
		if d.On() != on {
			t.Error("a refused write burnt the fuse")
		}
	}
	if e := d.Write(3, full(1)); e != api.ErrPower {
		t.Error("Write without power:", e)
	}
	d.Restart([]api.Torn{{Sector: 0, Writes: 9, Bytes: 64}, {Sector: 3, Writes: 9, Bytes: 64}})
	if !bytes.Equal(contents(t, d), make([]byte, 64*4)) {
		t.Error("a refused write took effect")
	}
}

// P3.3, R4: Write neither keeps nor changes its argument, nor what is behind it.
func TestWriteSharesNothing(t *testing.T) {
	d := create(t, 1)
	room := append(pattern(1), pattern(2)...)
	want := slices.Clone(room)
	write(t, d, 0, room[:64])
	if !bytes.Equal(room, want) {
		t.Error("Write changed its argument")
	}
	clear(room)
	expect(t, d, 0, pattern(1))
	flush(t, d)
	expect(t, d, 0, pattern(1))
}

// P3.3, P3.6: the unflushed writes of a sector are kept in their order, equal ones too.
func TestWritesAreAppended(t *testing.T) {
	d := create(t, 2)
	values := []byte{5, 5, 6, 5, 0, 7, 7, 6}
	for _, v := range values {
		write(t, d, 1, full(v))
	}
	for i, v := range values {
		want := append(full(0), full(v)...)
		if got := restarted(t, d, api.Torn{Sector: 1, Writes: i + 1}); !bytes.Equal(got, want) {
			t.Errorf("after %d writes: %v, want %v", i+1, got, want)
		}
	}
}

// P3.4: after Flush, the last writes are durable, and there are no unflushed writes.
func TestFlush(t *testing.T) {
	d := create(t, 4)
	flush(t, d)
	write(t, d, 0, full(1), full(2))
	write(t, d, 1, full(3))
	write(t, d, 3, full(4), full(5), full(6))
	flush(t, d)
	want := slices.Concat(full(2), full(3), full(0), full(6))
	for _, l := range [][]api.Torn{nil, {{Sector: 0, Writes: 1}, {Sector: 3, Writes: 0, Bytes: 9}}} {
		if got := restarted(t, d, l...); !bytes.Equal(got, want) {
			t.Errorf("Restart(%v): %v", l, got)
		}
	}
	write(t, d, 0, full(7))
	if got := restarted(t, d, api.Torn{Sector: 0, Writes: 0, Bytes: 1}); !bytes.Equal(got[:64], mixed(1, 7, 2)) {
		t.Errorf("the write after Flush is not the first one: %v", got[:64])
	}
	flush(t, d)
	flush(t, d)
	if got := restarted(t, d); !bytes.Equal(got[:64], full(7)) {
		t.Errorf("after another Flush: %v", got[:64])
	}
}

// P3.4: Flush without power makes nothing durable.
func TestFlushWithoutPower(t *testing.T) {
	d := create(t, 1)
	write(t, d, 0, full(1))
	d.Fuse(0)
	if e := d.Flush(); e != api.ErrPower {
		t.Error("Flush without power:", e)
	}
	if got := restarted(t, d); !bytes.Equal(got, full(0)) {
		t.Errorf("Flush without power made a write durable: %v", got)
	}
	if got := restarted(t, d, api.Torn{Sector: 0, Writes: 1}); !bytes.Equal(got, full(1)) {
		t.Errorf("Flush without power removed a write: %v", got)
	}
}

// P3.5: a fuse is shortened by writes and flushes; the last one is performed.
func TestFuse(t *testing.T) {
	d := create(t, 2)
	d.Fuse(3)
	write(t, d, 0, full(1))
	flush(t, d)
	if !d.On() {
		t.Error("the power went off too early")
	}
	write(t, d, 0, full(2))
	expectOff(t, d)
	if got := restarted(t, d); !bytes.Equal(got[:64], full(1)) {
		t.Errorf("the flush was not performed: %v", got[:64])
	}
	if got := restarted(t, d, api.Torn{Sector: 0, Writes: 1}); !bytes.Equal(got[:64], full(2)) {
		t.Errorf("the last write was not performed: %v", got[:64])
	}
	d.Restart(nil)
	write(t, d, 1, full(3))
	d.Fuse(1)
	flush(t, d)
	expectOff(t, d)
	d.Restart(nil)
	expect(t, d, 1, full(3))
}

// P3.5: Fuse(0) switches the power off, with or without a fuse.
func TestFuseZero(t *testing.T) {
	d := create(t, 1)
	d.Fuse(0)
	expectOff(t, d)
	d.Restart(nil)
	d.Fuse(5)
	d.Fuse(0)
	expectOff(t, d)
}

// P3.5: a negative argument removes the fuse.
func TestFuseNegative(t *testing.T) {
	for _, n := range []int{-1, -2, math.MinInt} {
		d := create(t, 1)
		for _, before := range []int{-1, 1, 2, math.MaxInt} {
			d.Fuse(before)
			d.Fuse(n)
			for range 5 {
				write(t, d, 0, full(1))
				flush(t, d)
			}
			if !d.On() {
				t.Errorf("Fuse(%d) after Fuse(%d): the power went off", n, before)
			}
		}
	}
}

// P3.5: another Fuse replaces the fuse, whether it is longer or shorter.
func TestFuseReplaces(t *testing.T) {
	for _, c := range [][2]int{{1, 3}, {3, 1}, {2, 2}, {math.MaxInt, 2}} {
		d := create(t, 1)
		d.Fuse(c[0])
		d.Fuse(c[1])
		for i := range c[1] {
			if e := d.Write(0, full(1)); e != api.OK {
				t.Errorf("Fuse(%d) after Fuse(%d): write %d: %v", c[1], c[0], i, e)
			}
		}
		expectOff(t, d)
	}
	d := create(t, 1)
	d.Fuse(2)
	write(t, d, 0, full(1))
	d.Fuse(2)
	write(t, d, 0, full(1))
	if !d.On() {
		t.Error("Fuse did not replace a fuse that had been shortened")
	}
	flush(t, d)
	expectOff(t, d)
}

// P3.5: Fuse does nothing while the power is off, and leaves no fuse for later.
func TestFuseWithoutPower(t *testing.T) {
	for _, n := range []int{-1, 0, 1, 5, math.MinInt, math.MaxInt} {
		d := create(t, 1)
		d.Fuse(0)
		d.Fuse(n)
		expectOff(t, d)
		d.Restart(nil)
		for range 9 {
			write(t, d, 0, full(1))
		}
		if !d.On() {
			t.Errorf("Fuse(%d) without power left a fuse", n)
		}
	}
}

// P3.5: once the power went off there is no fuse, and a restart does not bring it back.
func TestFuseIsUsedUp(t *testing.T) {
	d := create(t, 1)
	d.Fuse(1)
	write(t, d, 0, full(1))
	d.Restart(nil)
	for range 9 {
		write(t, d, 0, full(1))
		flush(t, d)
	}
}

// survivors are restarts of a sector with durable bytes 1 and the unflushed writes 2, 3 and 4, and what is left.
var survivors = []struct {
	l    []api.Torn
	want []byte
}{
	{nil, full(1)},
	{[]api.Torn{}, full(1)},
	{[]api.Torn{{Sector: 1}}, full(1)},
	{[]api.Torn{{Sector: 1, Bytes: 1}}, mixed(1, 2, 1)},
	{[]api.Torn{{Sector: 1, Bytes: 63}}, mixed(63, 2, 1)},
	{[]api.Torn{{Sector: 1, Bytes: 64}}, full(2)},
	{[]api.Torn{{Sector: 1, Bytes: 65}}, full(2)},
	{[]api.Torn{{Sector: 1, Bytes: math.MaxInt}}, full(2)},
	{[]api.Torn{{Sector: 1, Bytes: -1}}, full(1)},
	{[]api.Torn{{Sector: 1, Bytes: math.MinInt}}, full(1)},
	{[]api.Torn{{Sector: 1, Writes: -1}}, full(1)},
	{[]api.Torn{{Sector: 1, Writes: -1, Bytes: 9}}, mixed(9, 2, 1)},
	{[]api.Torn{{Sector: 1, Writes: math.MinInt, Bytes: 9}}, mixed(9, 2, 1)},
	{[]api.Torn{{Sector: 1, Writes: 1}}, full(2)},
	{[]api.Torn{{Sector: 1, Writes: 1, Bytes: -9}}, full(2)},
	{[]api.Torn{{Sector: 1, Writes: 1, Bytes: 32}}, mixed(32, 3, 2)},
	{[]api.Torn{{Sector: 1, Writes: 2, Bytes: 0}}, full(3)},
	{[]api.Torn{{Sector: 1, Writes: 2, Bytes: 10}}, mixed(10, 4, 3)},
	{[]api.Torn{{Sector: 1, Writes: 2, Bytes: 100}}, full(4)},
	{[]api.Torn{{Sector: 1, Writes: 3}}, full(4)},
	{[]api.Torn{{Sector: 1, Writes: 3, Bytes: 10}}, full(4)},
	{[]api.Torn{{Sector: 1, Writes: 4, Bytes: 10}}, full(4)},
	{[]api.Torn{{Sector: 1, Writes: math.MaxInt, Bytes: math.MaxInt}}, full(4)},
	{[]api.Torn{{Sector: 1, Writes: 1}, {Sector: 1, Writes: 2}}, full(2)},
	{[]api.Torn{{Sector: 1, Writes: 2}, {Sector: 1, Writes: 1}}, full(3)},
	{[]api.Torn{{Sector: 1}, {Sector: 1, Writes: 3}}, full(1)},
	{[]api.Torn{{Sector: 1, Writes: -5, Bytes: -5}, {Sector: 1, Bytes: 5}}, full(1)},
	{[]api.Torn{{Sector: 1, Bytes: 8}, {Sector: 1, Bytes: 16}}, mixed(8, 2, 1)},
	{[]api.Torn{{Sector: 0, Writes: 3}, {Sector: 1, Writes: 1}}, full(2)},
	{[]api.Torn{{Sector: -1, Writes: 3}, {Sector: 3, Writes: 3}, {Sector: math.MinInt}, {Sector: math.MaxInt}}, full(1)},
	{[]api.Torn{{Sector: 4097, Writes: 3}, {Sector: 1, Writes: 2}, {Sector: -1, Writes: 1}}, full(3)},
}

// P3.6: what survives in a sector, and that its neighbours without unflushed writes stay, with the power on or off.
func TestRestart(t *testing.T) {
	for _, c := range survivors {
		for _, on := range []bool{true, false} {
			d := create(t, 3)
			write(t, d, 0, full(8))
			write(t, d, 1, full(1))
			write(t, d, 2, full(9))
			flush(t, d)
			write(t, d, 1, full(2), full(3), full(4))
			if !on {
				d.Fuse(0)
			}
			want := slices.Concat(full(8), c.want, full(9))
			d.Restart(c.l)
			if !d.On() {
				t.Fatalf("Restart(%v): the power is off", c.l)
			}
			if got := contents(t, d); !bytes.Equal(got, want) {
				t.Errorf("Restart(%v) with power %v: %v", c.l, on, got[64:128])
			}
			if got := restarted(t, d, api.Torn{Sector: 1, Writes: 9, Bytes: 9}); !bytes.Equal(got, want) {
				t.Errorf("Restart(%v) with power %v: the result is not durable", c.l, on)
			}
		}
	}
}

// P3.6: bytes are torn at their places.
func TestRestartKeepsPlaces(t *testing.T) {
	old, next, last := pattern(0x00), pattern(0x40), pattern(0x80)
	for n := range 65 {
		d := create(t, 1)
		write(t, d, 0, old)
		flush(t, d)
		write(t, d, 0, next, last)
		if got, want := restarted(t, d, api.Torn{Bytes: n}), slices.Concat(next[:n], old[n:]); !bytes.Equal(got, want) {
			t.Errorf("%d bytes of the first write: %v", n, got)
		}
		if got, want := restarted(t, d, api.Torn{Writes: 1, Bytes: n}), slices.Concat(last[:n], next[n:]); !bytes.Equal(got, want) {
			t.Errorf("%d bytes of the second write: %v", n, got)
		}
	}
}

// P3.6: with the power on, Restart removes unflushed writes and the fuse.
func TestRestartRemovesTheFuse(t *testing.T) {
	d := create(t, 1)
	write(t, d, 0, full(1))
	d.Fuse(2)
	d.Restart(nil)
	expect(t, d, 0, full(0))
	for range 5 {
		write(t, d, 0, full(2))
		flush(t, d)
	}
	if !d.On() {
		t.Error("the fuse was not removed")
	}
}

// P3.6, R4: Restart does not change its argument.
func TestRestartKeepsItsArgument(t *testing.T) {
	d := create(t, 3)
	write(t, d, 0, full(1))
	write(t, d, 2, full(2))
	l := []api.Torn{{Sector: 2, Writes: -1, Bytes: 99}, {Sector: 7}, {Sector: 0, Writes: 50, Bytes: -1}, {Sector: 2, Writes: 1}}
	want := slices.Clone(l)
	d.Restart(l[:3])
	if !slices.Equal(l, want) {
		t.Error("the argument was changed:", l)
	}
}

// P3.6: after a restart, writes begin a new list on the bytes that survived.
func TestWritesAfterRestart(t *testing.T) {
	d := create(t, 2)
	write(t, d, 0, full(1), full(2))
	d.Restart([]api.Torn{{Sector: 0, Writes: 1, Bytes: 20}})
	expect(t, d, 0, mixed(20, 2, 1))
	write(t, d, 0, full(3))
	write(t, d, 1, full(4))
	d.Restart([]api.Torn{{Sector: 0, Bytes: 10}, {Sector: 1, Writes: 1}})
	expect(t, d, 0, slices.Concat(full(3)[:10], full(2)[:10], full(1)[:44]))
	expect(t, d, 1, full(4))
}

// P3.7: a sector that was not written since the last Flush survives, whatever happens to the others.
func TestDurability(t *testing.T) {
	source := rand.New(rand.NewSource(37))
	for range 200 {
		d := create(t, 4)
		for range source.Intn(20) {
			write(t, d, source.Intn(4), pattern(byte(source.Intn(256))))
		}
		flush(t, d)
		flushed := contents(t, d)
		written := map[int]bool{}
		for range source.Intn(4) {
			k := source.Intn(4)
			written[k] = true
			write(t, d, k, full(1))
		}
		d.Restart(randomTorn(source, 4))
		for k := range 4 {
			if !written[k] {
				expect(t, d, k, flushed[64*k:64*k+64])
			}
		}
	}
}

// isAllowed says whether P3.8 allows got in a sector: versions are its durable bytes and its unflushed writes.
func isAllowed(got []byte, versions [][]byte) bool {
	for i, b := range versions {
		if bytes.Equal(got, b) {
			return true
		}
		for n := range 65 {
			if i > 0 && bytes.Equal(got, slices.Concat(b[:n], versions[i-1][n:])) {
				return true
			}
		}
	}
	return false
}

// P3.8: the outcomes of restarts are those that tearing allows, and each of these is the outcome of some restart.
func TestTearing(t *testing.T) {
	d := create(t, 1)
	versions := [][]byte{pattern(0x11), pattern(0xa2), pattern(0x73), pattern(0xd4)}
	write(t, d, 0, versions[0])
	flush(t, d)
	write(t, d, 0, versions[1:]...)
	outcomes := map[string]bool{}
	for w := -2; w < 6; w++ {
		for n := -2; n < 68; n++ {
			got := restarted(t, d, api.Torn{Writes: w, Bytes: n})
			if !isAllowed(got, versions) {
				t.Errorf("%d writes and %d bytes leave %v", w, n, got)
			}
			outcomes[string(got)] = true
		}
	}
	if len(outcomes) != 3*64+1 {
		t.Errorf("%d outcomes", len(outcomes))
	}
}

// P3.9: after Fuse(n), exactly the first n writes and flushes return OK.
func TestFuseCounts(t *testing.T) {
	source := rand.New(rand.NewSource(39))
	for n := range 20 {
		for range 10 {
			d := create(t, 3)
			write(t, d, 0, full(1))
			d.Fuse(n)
			for i := range n + 6 {
				operation := d.Flush
				if source.Intn(2) == 0 {
					operation = func() api.Errno { return d.Write(source.Intn(3), full(byte(i))) }
				}
				if got := operation(); got == api.OK != (i < n) || got != api.OK && got != api.ErrPower {
					t.Fatalf("operation %d after Fuse(%d): %v", i, n, got)
				}
				if d.On() != (i+1 < n) && i < n {
					t.Fatalf("after operation %d after Fuse(%d): power %v", i, n, d.On())
				}
			}
			d.Restart(nil)
			if d.Flush() != api.OK {
				t.Fatal("Flush after Restart")
			}
		}
	}
}

// randomTorn returns some elements, of which some name no sector of a disk, and some name the same one.
func randomTorn(source *rand.Rand, sectors int) []api.Torn {
	l := make([]api.Torn, source.Intn(2*sectors+2))
	for i := range l {
		l[i] = api.Torn{Sector: source.Intn(sectors+2) - 1, Writes: source.Intn(6) - 1, Bytes: source.Intn(80) - 8}
	}
	return l
}

// randomDisk returns a disk with flushed and unflushed writes.
func randomDisk(t *testing.T, source *rand.Rand, sectors int) *disk.Disk {
	t.Helper()
	d := create(t, sectors)
	for range 2 {
		flush(t, d)
		for range source.Intn(5 * sectors) {
			write(t, d, source.Intn(sectors), pattern(byte(source.Intn(256))))
		}
	}
	return d
}

// P3.10: the order of elements of different sectors does not matter, nor does what follows the first element of one.
func TestIndependence(t *testing.T) {
	source := rand.New(rand.NewSource(310))
	for range 300 {
		d := randomDisk(t, source, 5)
		var first []api.Torn
		for k := range 5 {
			if source.Intn(4) > 0 {
				first = append(first, api.Torn{Sector: k, Writes: source.Intn(6) - 1, Bytes: source.Intn(80) - 8})
			}
		}
		want := restarted(t, d, first...)
		for range 3 {
			source.Shuffle(len(first), func(i, j int) { first[i], first[j] = first[j], first[i] })
			more := slices.Clone(first)
			for _, again := range first {
				again.Writes, again.Bytes = source.Intn(6), source.Intn(64)
				more = append(more, again)
			}
			if got := restarted(t, d, more...); !bytes.Equal(got, want) {
				t.Fatalf("Restart(%v) differs from Restart(%v)", more, first)
			}
		}
	}
}

// P3.10: what survives in a sector is what survives if the other ones are not written and not named.
func TestSectorsAreIndependent(t *testing.T) {
	source := rand.New(rand.NewSource(3100))
	for range 100 {
		l := randomTorn(source, 4)
		d := create(t, 4)
		alone := []*disk.Disk{create(t, 4), create(t, 4), create(t, 4), create(t, 4)}
		for i := range source.Intn(20) {
			k := source.Intn(4)
			write(t, d, k, pattern(byte(i)))
			write(t, alone[k], k, pattern(byte(i)))
		}
		got := restarted(t, d, l...)
		for k, one := range alone {
			of := slices.DeleteFunc(slices.Clone(l), func(t api.Torn) bool { return t.Sector != k })
			if want := restarted(t, one, of...); !bytes.Equal(got[64*k:64*k+64], want[64*k:64*k+64]) {
				t.Fatalf("Restart(%v): sector %d depends on the other ones", l, k)
			}
		}
	}
}

// P3.11: a second restart changes nothing; a restart that keeps all writes is a Flush.
func TestRepetition(t *testing.T) {
	source := rand.New(rand.NewSource(311))
	for range 200 {
		d := randomDisk(t, source, 4)
		last := contents(t, d)
		var all []api.Torn
		for k := range 4 {
			all = append(all, api.Torn{Sector: k, Writes: 100 + source.Intn(3), Bytes: source.Intn(64)})
		}
		if got := restarted(t, d, all...); !bytes.Equal(got, last) {
			t.Fatal("a restart that keeps all writes differs from a flush")
		}
		d.Restart(randomTorn(source, 4))
		once := contents(t, d)
		d.Restart(randomTorn(source, 4))
		if !d.On() || !bytes.Equal(contents(t, d), once) {
			t.Fatal("a second restart changed something")
		}
	}
}

// model is a disk in which each sector is a list: its durable bytes, followed by its unflushed writes.
type model struct {
	lists [][]string
	on    bool
	// left is the fuse; -1: none.
	left int
}

func newModel(sectors int) *model {
	m := &model{on: true, left: -1}
	for range sectors {
		m.lists = append(m.lists, []string{string(full(0))})
	}
	return m
}

// perform does what is done if the power is on, and takes one operation from the fuse.
func (m *model) perform(what func()) api.Errno {
	if !m.on {
		return api.ErrPower
	}
	what()
	if m.left > 0 {
		m.left--
		m.on = m.left > 0
	}
	return api.OK
}

func (m *model) write(k int, b []byte) api.Errno {
	return m.perform(func() { m.lists[k] = append(m.lists[k], string(b)) })
}

func (m *model) flush() api.Errno {
	return m.perform(func() {
		for k, list := range m.lists {
			m.lists[k] = []string{list[len(list)-1]}
		}
	})
}

func (m *model) fuse(n int) {
	if m.on {
		m.left, m.on = n, n != 0
	}
}

func (m *model) restart(l []api.Torn) {
	for k, list := range m.lists {
		end := list[0]
		if i := slices.IndexFunc(l, func(t api.Torn) bool { return t.Sector == k }); i >= 0 {
			w := min(max(l[i].Writes, 0), len(list)-1)
			end = list[w]
			if n := min(max(l[i].Bytes, 0), 64); w+1 < len(list) {
				end = list[w+1][:n] + end[n:]
			}
		}
		m.lists[k] = []string{end}
	}
	m.on, m.left = true, -1
}

// agree checks that a disk shows what the model has.
func (m *model) agree(t *testing.T, d *disk.Disk) {
	t.Helper()
	if d.On() != m.on || d.Len() != len(m.lists) {
		t.Fatalf("power %v, want %v; %d sectors", d.On(), m.on, d.Len())
	}
	for k, list := range m.lists {
		b, e := d.Read(k)
		if !m.on && (e != api.ErrPower || len(b) != 0) || m.on && (e != api.OK || string(b) != list[len(list)-1]) {
			t.Fatalf("Read(%d) with power %v: %v, %v", k, m.on, b, e)
		}
	}
}

// P3.1 to P3.6: long runs of random operations, against the model; sometimes a copy takes the place of the disk.
func TestAgainstModel(t *testing.T) {
	source := rand.New(rand.NewSource(3))
	for range 200 {
		sectors := 1 + source.Intn(5)
		d, m := create(t, sectors), newModel(sectors)
		for range 150 {
			got, want := api.OK, api.OK
			switch source.Intn(12) {
			case 0, 1:
				got, want = d.Flush(), m.flush()
			case 2:
				n := source.Intn(12) - 2
				d.Fuse(n)
				m.fuse(n)
			case 3:
				l := randomTorn(source, sectors)
				d.Restart(l)
				m.restart(l)
			case 4:
				old := d
				d = d.Clone()
				old.Restart(randomTorn(source, sectors))
				old.Write(0, full(77))
			default:
				k, b := source.Intn(sectors), pattern(byte(source.Intn(256)))
				got, want = d.Write(k, b), m.write(k, b)
			}
			if got != want {
				t.Fatalf("%v, want %v", got, want)
			}
			m.agree(t, d)
		}
	}
}

// R5: the disks of a program do not influence each other.
func TestDisksAreIndependent(t *testing.T) {
	x, y := create(t, 2), create(t, 2)
	write(t, x, 0, full(1))
	x.Fuse(0)
	expect(t, y, 0, full(0))
	write(t, y, 0, full(2))
	x.Restart([]api.Torn{{Sector: 0, Writes: 1}})
	expect(t, x, 0, full(1))
	expect(t, y, 0, full(2))
}

// The examples of the chapter.
func TestExamples(t *testing.T) {
	d := create(t, 2)
	write(t, d, 1, full(7))
	flush(t, d)
	write(t, d, 1, full(8), full(9))
	expect(t, d, 1, full(9))
	for _, c := range []struct {
		l    []api.Torn
		want []byte
	}{
		{[]api.Torn{{Sector: 1, Writes: 1, Bytes: 10}}, mixed(10, 9, 8)},
		{[]api.Torn{{Sector: 1, Writes: 0, Bytes: 3}}, mixed(3, 8, 7)},
		{nil, full(7)},
	} {
		if got := restarted(t, d, c.l...)[64:]; !bytes.Equal(got, c.want) {
			t.Errorf("Restart(%v): %v", c.l, got)
		}
	}
	d.Fuse(1)
	if e := d.Write(0, full(1)); e != api.OK {
		t.Error("the first Write after Fuse(1):", e)
	}
	if e := d.Write(0, full(1)); e != api.ErrPower {
		t.Error("the second Write after Fuse(1):", e)
	}
	if _, e := d.Read(0); e != api.ErrPower {
		t.Error("Read after Fuse(1) and a Write:", e)
	}
}
