package merkle_test

import (
	"math/rand"
	"slices"
	"strconv"
	"strings"
	"testing"

	"rollbook/api"
	"rollbook/digest"
	"rollbook/disk"
	"rollbook/merkle"
	"rollbook/wal"
)

// lists calls f with each list of some length whose elements are from a set. f must not keep the list.
func lists(set []api.Hash, length int, f func(l []api.Hash)) {
	l := make([]api.Hash, length)
	var fill func(i int)
	fill = func(i int) {
		if i == length {
			f(l)
			return
		}
		for _, h := range set {
			l[i] = h
			fill(i + 1)
		}
	}
	fill(0)
}

// P7.9: different lists of one length have different roots.
func TestRootsBind(t *testing.T) {
	l := leaves(3)
	// The last element is a node: it must not be taken for two leaves.
	set := []api.Hash{l[0], l[1], node(l[0], l[1])}
	for n := range 8 {
		from := map[api.Hash][]api.Hash{}
		lists(set, n, func(l []api.Hash) {
			root := merkle.Root(l)
			if other, found := from[root]; found {
				t.Fatalf("%x and %x have the same root", other, l)
			}
			from[root] = slices.Clone(l)
		})
	}
}

// P7.9: for one root, one number and one index, Includes accepts one leaf, and one path of it.
func TestPathsBind(t *testing.T) {
	l := leaves(2)
	set := []api.Hash{l[0], l[1], node(l[0], l[1]), node(l[1], l[0])}
	for n := 1; n < 10; n++ {
		for i := range n {
			length := len(pathOf(leaves(n), i))
			from := map[api.Hash][]api.Hash{}
			lists(set, 1+length, func(l []api.Hash) {
				root, _ := resultsOf(n, i, l[0], l[1:])
				if !merkle.Includes(root, n, i, l[0], l[1:]) {
					t.Fatalf("Includes rejects %x as leaf %d of %d", l, i, n)
				}
				if other, found := from[root]; found {
					t.Fatalf("Includes accepts %x and %x as leaf %d of %d", other, l, i, n)
				}
				from[root] = slices.Clone(l)
			})
		}
	}
}

// P7.9: a list that differs in one leaf, or in the order, has another root; the paths of one list are not accepted for it.
func TestChangedLists(t *testing.T) {
	l := leaves(34)
	for n := 2; n < len(l); n++ {
		root := merkle.Root(l[:n])
		for i := range n {
			other := slices.Clone(l[:n])
			other[i] = l[33]
			if merkle.Root(other) == root {
				t.Errorf("another leaf %d of %d does not change the root", i, n)
			}
			path, _ := merkle.Path(other, i)
			if merkle.Includes(root, n, i, l[33], path) || !merkle.Includes(root, n, i, l[i], path) {
				t.Errorf("the path of another leaf %d of %d", i, n)
			}
			if i > 0 {
				other[i], other[i-1] = l[i-1], l[i]
				if merkle.Root(other) == root {
					t.Errorf("the order of the leaves %d and %d of %d does not change the root", i-1, i, n)
				}
			}
		}
	}
}

// accepts reports whether Extends accepts the growth from m to n leaves of a list.
func accepts(t *testing.T, l []api.Hash, m, n int) bool {
	t.Helper()
	path, e := merkle.Growth(l[:n], m)
	if e != api.OK {
		t.Fatalf("Growth from %d to %d: %v", m, n, e)
	}
	return merkle.Extends(merkle.Root(l[:m]), m, merkle.Root(l[:n]), n, path)
}

// P7.7, P7.10: growths of one list, one after the other and together.
func TestTransitivity(t *testing.T) {
	l := leaves(24)
	for c := range len(l) + 1 {
		for b := range c + 1 {
			for a := range b + 1 {
				if !accepts(t, l, a, b) || !accepts(t, l, b, c) || !accepts(t, l, a, c) {
					t.Fatalf("from %d to %d to %d leaves", a, b, c)
				}
			}
		}
	}
}

// P7.5, P7.7: the growth of another list, which has other leaves at the beginning, is not accepted.
func TestGrowthOfOtherLists(t *testing.T) {
	l := leaves(20)
	for n := 2; n < 19; n++ {
		for m := 1; m < n; m++ {
			for i := range m {
				other := slices.Clone(l[:n])
				other[i] = l[19]
				path, _ := merkle.Growth(other, m)
				if merkle.Extends(merkle.Root(l[:m]), m, merkle.Root(other), n, path) {
					t.Fatalf("from %d to %d leaves, of which leaf %d is another one", m, n, i)
				}
			}
		}
	}
}

// region is the number of sectors of the logs.
const region = 20

// tracked is a log whose records are the leaves of a tree.
type tracked struct {
	l    *wal.Log
	tree api.Frontier
}

// reopen returns the log of a disk, with the tree of its records.
func reopen(t *testing.T, d *disk.Disk) tracked {
	t.Helper()
	l, e := wal.Open(d, 0, region)
	if e != api.OK {
		t.Fatal("wal.Open:", e)
	}
	k := tracked{l: l}
	for _, rec := range l.Records() {
		k.tree = merkle.Append(k.tree, digest.Leaf(rec))
	}
	return k
}

// leavesOf returns the leaves for the records of a log.
func (k *tracked) leavesOf() []api.Hash {
	var l []api.Hash
	for _, rec := range k.l.Records() {
		l = append(l, digest.Leaf(rec))
	}
	return l
}

// add appends a record to the log and to the tree.
func (k *tracked) add(rec string) api.Errno {
	e := k.l.Append([]byte(rec))
	if e == api.OK {
		k.tree = merkle.Append(k.tree, digest.Leaf([]byte(rec)))
	}
	return e
}

// durable returns the head of the tree of the records that are known to be durable.
func (k *tracked) durable() api.Head {
	n := k.l.Synced()
	return api.Head{Size: n, Root: merkle.Root(k.leavesOf()[:n])}
}

// checkExtended checks that the tree of the records extends each of some older ones.
func (k *tracked) checkExtended(t *testing.T, heads []api.Head) {
	t.Helper()
	l := k.leavesOf()
	if k.tree.N != len(l) || merkle.Top(k.tree) != merkle.Root(l) {
		t.Fatalf("the frontier of %d records: %v", len(l), k.tree)
	}
	for _, h := range heads {
		path, e := merkle.Growth(l, h.Size)
		if e != api.OK || !merkle.Extends(h.Root, h.Size, merkle.Top(k.tree), k.tree.N, path) {
			t.Fatalf("the tree of %d durable records is not extended by that of %d records: %v", h.Size, len(l), e)
		}
	}
}

// outcome is one of the things that may become of the unflushed writes.
func outcome(random *rand.Rand) []api.Torn {
	var l []api.Torn
	for k := range region {
		l = append(l, api.Torn{Sector: k, Writes: random.Intn(3), Bytes: random.Intn(65)})
	}
	return l
}

// P7.11: a power failure at each write and flush of a run, with many outcomes, and several failures one after the other.
func TestTreesOfLogs(t *testing.T) {
	random := rand.New(rand.NewSource(7))
	lost, kept := 0, 0
	for fuse := range 40 {
		for range 20 {
			d, e := disk.New(region)
			if e != api.OK {
				t.Fatal("disk.New:", e)
			}
			if _, e := wal.Format(d, 0, region); e != api.OK {
				t.Fatal("wal.Format:", e)
			}
			k := reopen(t, d)
			heads := []api.Head{k.durable()}
			for round := range 3 {
				d.Fuse(fuse)
				heads = append(heads, runUntilFailure(t, d, &k, round)...)
				d.Fuse(0)
				d.Restart(outcome(random))
				before, durable := k.tree.N, heads[len(heads)-1].Size
				k = reopen(t, d)
				k.checkExtended(t, heads)
				if k.tree.N < before {
					lost++
				}
				if k.tree.N > durable {
					kept++
				}
			}
		}
	}
	if lost == 0 || kept == 0 {
		t.Errorf("%d failures lost records, %d kept records that were not known to be durable", lost, kept)
	}
}

// runUntilFailure appends and synchronizes records until the power is off; it returns the heads of the durable records after each step.
func runUntilFailure(t *testing.T, d *disk.Disk, k *tracked, round int) []api.Head {
	t.Helper()
	var heads []api.Head
	for i := 0; i < 9 && d.On(); i++ {
		rec := strconv.Itoa(round) + "/" + strconv.Itoa(i) + strings.Repeat(".", 7*i%30)
		if e := k.add(rec); e != api.OK && e != api.ErrPower && e != api.ErrFull {
			t.Fatalf("Append of %q: %v", rec, e)
		}
		if i%3 == 2 {
			if e := k.l.Sync(); e != api.OK && e != api.ErrPower {
				t.Fatal("Sync:", e)
			}
		}
		heads = append(heads, k.durable())
	}
	return heads
}
